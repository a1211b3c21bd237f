/- Of the document's convolution: below, at whatever third curve. By the verifier's side. -/
import Derived.Test.YthljhddnfflpjaaPRCo1RCo2
import Derived.Test.YthljhddnfflpjaaPRefA
import Derived.Test.YthljhddnfflpjaaPR5D
import Derived.Test.YthljhddnfflpjaaPCurSLongKeepC
import Derived.Test.YthljhddnfflpjaaPPwSPwU
namespace Go.Proofs.Ythljhddnfflpjaa
open Go.RowKit
set_option linter.unusedSimpArgs false
set_option linter.unusedVariables false

/-- The form of a curve whose values can be asked for. -/
structure TotC (n p : Nat) (inc : Int) : Prop where
  p1 : 1 ≤ p
  pn : p ≤ n
  n8 : n ≤ 8192
def GivesTot (zs : List Int) (p : Nat) (inc : Int) (t : Nat) (w : World) (e : Ending) (w' : World) : Prop :=
  ∃ v : Int, (Good zs p inc → v = atC zs p inc t) ∧ e = .returned (.int .i64 v) ∧ Below w.heap.size w w'
set_option maxHeartbeats 1600000 in
theorem rat_tot (a : Option Addr) (n cap : Nat) (zs : List Int) (p : Nat) (inc : Int) (h0 : TotC n p inc) (ti : Int) (t : Nat) (hti : ti = t) (ht : t ≤ 1000000) (w : World) (h : RowZ w a n cap zs) :
    Calls Try.prog 59 #[curV a n cap p inc, .int .i64 ti] w (GivesTot zs p inc t w) := by
  by_cases good : Good zs p inc
  · refine (rat_at a n cap zs p inc good ti t hti (by omega) _ rfl w h).mono ?_
    rintro e w' ⟨rfl, hb⟩
    exact ⟨_, fun _ => rfl, rfl, hb⟩
  subst hti
  have hB := below_box (w := w) (.cells #[.slice a n cap, .int .i64 p, .int .i64 inc] 24)
  have HBl := Lib.hid hB
  have hrow := h.under hB
  obtain ⟨hp1, hpn, hn8⟩ := h0
  have HNG := Lib.hid good
  have hnp : decide (n < p) = false := by simp; omega
  clear h hB good
  by_cases hlt : t < n
  · obtain ⟨x, rfl, hc⟩ := hrow.cell t hlt
    obtain ⟨z, hzz⟩ : ∃ z, zs.getD t 0 = z := ⟨_, rfl⟩
    rw [hzz] at hc
    have r10 : decide (n ≤ t) = false := by simp; omega
    have r13 : (t : Int) < (n : Int) := by omega
    clear hrow hzz
    go_enter Try.func59, Try.ntmps59
    go_wp2_with fail
    go_ret
    exact ⟨_, fun g => absurd g HNG.out, rfl, HBl.out⟩
  · obtain ⟨i1', i2', i3'⟩ := idx_facts hp1 hpn (show n ≤ t by omega)
    obtain ⟨u, hu⟩ : ∃ u, t = n + u := ⟨t - n, by omega⟩
    obtain ⟨c, hc⟩ : ∃ c, u / p = c := ⟨_, rfl⟩
    have hcu : c ≤ u := by rw [← hc]; exact Nat.div_le_self _ _
    obtain ⟨M, hM⟩ : ∃ M, (c + 1) * p = M := ⟨_, rfl⟩
    rw [show t - n = u by omega, hc, hM] at i1' i2' i3'
    obtain ⟨i, hi⟩ : ∃ i, t - M = i := ⟨_, rfl⟩
    rw [hi] at i2' i3'
    obtain ⟨x, rfl, hcell⟩ := hrow.cell i i3'
    obtain ⟨z, hzz⟩ : ∃ z, zs.getD i 0 = z := ⟨_, rfl⟩
    rw [hzz] at hcell
    have r1 : (t : Int) - (n : Int) = (u : Int) := by omega
    have r2 : (u : Int) / (p : Int) = (c : Int) := by rw [← hc, Int.natCast_ediv]
    have r3 : IntKind.i64.wrap (((c : Int) + 1) * (p : Int)) = (M : Int) := by
      rw [show ((c : Int) + 1) * (p : Int) = (M : Int) by rw [← hM]; simp]
      exact IntWalk.i64_in _ ⟨by omega, by omega⟩
    have r4 : (t : Int) - (M : Int) = (i : Int) := by omega
    have r5 : IntKind.i64.wrap (i : Int) = (i : Int) := IntWalk.i64_in _ ⟨by omega, by omega⟩
    have r8 : (0 : Int) ≤ (i : Int) := by omega
    have r9 : (i : Int) < (n : Int) := by omega
    have r10 : decide (n ≤ t) = true := by simp; omega
    have r13 : ¬ (t : Int) < (n : Int) := by omega
    have r14 : decide (t < n) = false := by simp; omega
    have r11 : ¬ (p : Int) = 0 := by omega
    have r12 : (1 : Int) ≤ (p : Int) := by omega
    have i2'' := i2'
    clear hrow hc hM hi hzz hu i1' i2' i2'' r14
    by_cases ez : z = 4611686018427387904
    · have ez' : (z == 4611686018427387904) = true := by simpa using ez
      clear ez
      go_enter Try.func59, Try.ntmps59
      go_wp2_with fail
      go_ret
      exact ⟨_, fun g => absurd g HNG.out, rfl, HBl.out⟩
    · have ez' : (z == 4611686018427387904) = false := by simpa using ez
      clear ez
      go_enter Try.func59, Try.ntmps59
      go_wp2_with fail
      go_ret
      exact ⟨_, fun g => absurd g HNG.out, rfl, HBl.out⟩

/-- Three curves in the call's first boxes. -/
structure C3 (w : World) (a1 : Option Addr) (n1 cap1 : Nat) (z1 : List Int) (p1 : Nat) (i1 : Int) (a2 : Option Addr) (n2 cap2 : Nat) (z2 : List Int) (p2 : Nat) (i2 : Int) (a3 : Option Addr) (n3 cap3 : Nat) (z3 : List Int) (p3 : Nat) (i3 : Int) (u : World) : Prop where
  f : Bx u w.heap.size a1 n1 cap1 p1 i1 z1
  g : Bx u (w.heap.size + 1) a2 n2 cap2 p2 i2 z2
  h : Bx u (w.heap.size + 1 + 1) a3 n3 cap3 p3 i3 z3
  below : Below w.heap.size w u
theorem C3.call {w u v : World} {a1 : Option Addr} {n1 cap1 : Nat} {z1 : List Int} {p1 : Nat} {i1 : Int} {a2 : Option Addr} {n2 cap2 : Nat} {z2 : List Int} {p2 : Nat} {i2 : Int} {a3 : Option Addr} {n3 cap3 : Nat} {z3 : List Int} {p3 : Nat} {i3 : Int} (k : C3 w a1 n1 cap1 z1 p1 i1 a2 n2 cap2 z2 p2 i2 a3 n3 cap3 z3 p3 i3 u) (hb : Below u.heap.size u v) : C3 w a1 n1 cap1 z1 p1 i1 a2 n2 cap2 z2 p2 i2 a3 n3 cap3 z3 p3 i3 v := ⟨k.f.under hb, k.g.under hb, k.h.under hb, k.below.trans (hb.mono k.below.size)⟩
theorem c3_new {w : World} {a1 : Option Addr} {n1 cap1 : Nat} {z1 : List Int} {p1 : Nat} {i1 : Int} {a2 : Option Addr} {n2 cap2 : Nat} {z2 : List Int} {p2 : Nat} {i2 : Int} {a3 : Option Addr} {n3 cap3 : Nat} {z3 : List Int} {p3 : Nat} {i3 : Int} (h1 : RowZ w a1 n1 cap1 z1) (h2 : RowZ w a2 n2 cap2 z2) (h3 : RowZ w a3 n3 cap3 z3) {W : World} (hW : ((w.alloc (.cells #[.slice a1 n1 cap1, .int .i64 p1, .int .i64 i1] 24)).alloc (.cells #[.slice a2 n2 cap2, .int .i64 p2, .int .i64 i2] 24)).alloc (.cells #[.slice a3 n3 cap3, .int .i64 p3, .int .i64 i3] 24) = W) : C3 w a1 n1 cap1 z1 p1 i1 a2 n2 cap2 z2 p2 i2 a3 n3 cap3 z3 p3 i3 W := by
  subst hW
  have hB : Below w.heap.size w (((w.alloc (.cells #[.slice a1 n1 cap1, .int .i64 p1, .int .i64 i1] 24)).alloc (.cells #[.slice a2 n2 cap2, .int .i64 p2, .int .i64 i2] 24)).alloc (.cells #[.slice a3 n3 cap3, .int .i64 p3, .int .i64 i3] 24)) := (((Below.refl _ _).alloc (Nat.le_refl _) _).alloc (by simp) _).alloc (by simp; omega) _
  have k := Cur3.new2 (w.alloc (.cells #[.slice a1 n1 cap1, .int .i64 p1, .int .i64 i1] 24)) (.slice a3 n3 cap3) (.int .i64 p3) (.int .i64 i3) 24 (.cells #[.slice a2 n2 cap2, .int .i64 p2, .int .i64 i2] 24)
  rw [show (w.alloc (.cells #[.slice a1 n1 cap1, .int .i64 p1, .int .i64 i1] 24)).heap.size = w.heap.size + 1 by simp] at k
  exact ⟨⟨((Cur3.new w _ _ _ _).alloc _).alloc _, h1.under hB⟩, ⟨(Cur3.new2 w _ _ _ _ _).alloc _, h2.under hB⟩, ⟨k, h3.under hB⟩, hB⟩

/-- At the ticks s and u the third curve, if it is one, is at most the sum. -/
def Le7 (z1 : List Int) (p1 : Nat) (i1 : Int) (z2 : List Int) (p2 : Nat) (i2 : Int) (z3 : List Int) (p3 : Nat) (i3 : Int) (s u : Nat) : Prop := Good z3 p3 i3 → atC z3 p3 i3 (s + u) ≤ plI (atC z1 p1 i1 s) (atC z2 p2 i2 u)
def GivesBelow (z1 : List Int) (p1 : Nat) (i1 : Int) (z2 : List Int) (p2 : Nat) (i2 : Int) (z3 : List Int) (p3 : Nat) (i3 : Int) (L : Nat) (w : World) (e : Ending) (w' : World) : Prop :=
  ∃ b : Bool, e = .returned (.bool b) ∧ Below w.heap.size w w' ∧ (Good z3 p3 i3 → (b = true ↔ ∀ s u, s < max (z1.length - p1) (z3.length - p3) + L → u < max (z2.length - p2) (z3.length - p3) + L → Le7 z1 p1 i1 z2 p2 i2 z3 p3 i3 s u))

set_option maxRecDepth 100000 in
set_option maxHeartbeats 6400000 in
theorem below7 (a1 : Option Addr) (n1 cap1 : Nat) (z1 : List Int) (p1 : Nat) (i1 : Int) (g1 : Good z1 p1 i1) (a2 : Option Addr) (n2 cap2 : Nat) (z2 : List Int) (p2 : Nat) (i2 : Int) (g2 : Good z2 p2 i2) (a3 : Option Addr) (n3 cap3 : Nat) (z3 : List Int) (p3 : Nat) (i3 : Int) (h0 : TotC n3 p3 i3) (L : Nat) (hL : L ≤ 120) (w : World) (h1 : RowZ w a1 n1 cap1 z1) (h2 : RowZ w a2 n2 cap2 z2) (h3 : RowZ w a3 n3 cap3 z3) :
    Calls Try.prog 209 #[curV a1 n1 cap1 p1 i1, curV a2 n2 cap2 p2 i2, curV a3 n3 cap3 p3 i3, .int .i64 L] w (GivesBelow z1 p1 i1 z2 p2 i2 z3 p3 i3 L w) := by
  obtain ⟨W, hW⟩ : ∃ W, ((w.alloc (.cells #[.slice a1 n1 cap1, .int .i64 p1, .int .i64 i1] 24)).alloc (.cells #[.slice a2 n2 cap2, .int .i64 p2, .int .i64 i2] 24)).alloc (.cells #[.slice a3 n3 cap3, .int .i64 p3, .int .i64 i3] 24) = W := ⟨_, rfl⟩
  have T0 := Lib.hid (c3_new h1 h2 h3 hW)
  have HG := Lib.hid (And.intro g1 g2)
  have HT := Lib.hid h0
  have B1 := Lib.hid (show p1 ≤ n1 ∧ n1 ≤ 100000 ∧ p2 ≤ n2 ∧ n2 ≤ 100000 ∧ p3 ≤ n3 ∧ n3 ≤ 100000 by have := h1.len; have := h2.len; have := g1.p3; have := g1.few; have := g2.p3; have := g2.few; have := h0.pn; have := h0.n8; omega)
  obtain ⟨sa, hsa⟩ : ∃ v, n1 - p1 = v := ⟨_, rfl⟩
  obtain ⟨sb, hsb⟩ : ∃ v, n2 - p2 = v := ⟨_, rfl⟩
  obtain ⟨sh, hsh⟩ : ∃ v, n3 - p3 = v := ⟨_, rfl⟩
  have hsa4 : sa ≤ 400 := by have := h1.len; have := g1.few; omega
  have hsb4 : sb ≤ 400 := by have := h2.len; have := g2.few; omega
  have hsh8 : sh ≤ 8192 := by have := h0.n8; omega
  have ia : ((n1 - p1 : Nat) : Int) = (sa : Int) := by omega
  have ib : ((n2 - p2 : Nat) : Int) = (sb : Int) := by omega
  have ih : ((n3 - p3 : Nat) : Int) = (sh : Int) := by omega
  have HI := Lib.hid (And.intro ia (And.intro ib ih))
  obtain ⟨M1, hM1⟩ : ∃ M, max sa sh + L = M := ⟨_, rfl⟩
  obtain ⟨M2, hM2⟩ : ∃ M, max sb sh + L = M := ⟨_, rfl⟩
  have HM := Lib.hid (show max (z1.length - p1) (z3.length - p3) + L = M1 ∧ max (z2.length - p2) (z3.length - p3) + L = M2 by rw [h1.len, h2.len, h3.len, hsa, hsb, hsh]; exact ⟨hM1, hM2⟩)
  have HMA := Lib.hid (show (sa < sh → (sh : Int) + (L : Int) = M1) ∧ (¬ sa < sh → (sa : Int) + (L : Int) = M1) ∧ (sb < sh → (sh : Int) + (L : Int) = M2) ∧ (¬ sb < sh → (sb : Int) + (L : Int) = M2) by
    refine ⟨fun h => by omega, fun h => by omega, fun h => by omega, fun h => by omega⟩)
  have hM1b : M1 ≤ 8400 := by omega
  have hM2b : M2 ≤ 8400 := by omega
  have hw1 : IntKind.i64.wrap (M1 : Int) = (M1 : Int) := IntWalk.i64_in _ ⟨by omega, by omega⟩
  have hw2 : IntKind.i64.wrap (M2 : Int) = (M2 : Int) := IntWalk.i64_in _ ⟨by omega, by omega⟩
  have HW := Lib.hid hW
  have KS := Lib.hid (show ∀ u, C3 w a1 n1 cap1 z1 p1 i1 a2 n2 cap2 z2 p2 i2 a3 n3 cap3 z3 p3 i3 u → (u.cell? ⟨w.heap.size, 0, none⟩ = some (.slice a1 n1 cap1) ∧ u.cell? ⟨w.heap.size, 1, none⟩ = some (.int .i64 p1) ∧ u.cell? ⟨w.heap.size, 2, none⟩ = some (.int .i64 i1)) ∧ (u.cell? ⟨w.heap.size + 1, 0, none⟩ = some (.slice a2 n2 cap2) ∧ u.cell? ⟨w.heap.size + 1, 1, none⟩ = some (.int .i64 p2) ∧ u.cell? ⟨w.heap.size + 1, 2, none⟩ = some (.int .i64 i2)) ∧ (u.cell? ⟨w.heap.size + 1 + 1, 0, none⟩ = some (.slice a3 n3 cap3) ∧ u.cell? ⟨w.heap.size + 1 + 1, 1, none⟩ = some (.int .i64 p3) ∧ u.cell? ⟨w.heap.size + 1 + 1, 2, none⟩ = some (.int .i64 i3)) ∧ Hid (C3 w a1 n1 cap1 z1 p1 i1 a2 n2 cap2 z2 p2 i2 a3 n3 cap3 z3 p3 i3 u) from fun u h => ⟨⟨h.f.box.c0, h.f.box.c1, h.f.box.c2⟩, ⟨h.g.box.c0, h.g.box.c1, h.g.box.c2⟩, ⟨h.h.box.c0, h.h.box.c1, h.h.box.c2⟩, h⟩)
  clear hW h1 h2 h3 g1 g2 h0 hsa hsb hsh ia ib ih hM1 hM2
  go_enter Try.func209, Try.ntmps209
  go_upto_region 1 with fail
  try rw [HW.out]
  go_wp2_with fail
  go_loopw [9] (fun s9 wx => ∃ k : Nat, s9 = .int .i64 k ∧ k ≤ M1 ∧ Hid (∀ s u, s < k → u < M2 → Le7 z1 p1 i1 z2 p2 i2 z3 p3 i3 s u) ∧ Hid (C3 w a1 n1 cap1 z1 p1 i1 a2 n2 cap2 z2 p2 i2 a3 n3 cap3 z3 p3 i3 wx)) (fun s9 _ => M1 - (intOf s9).toNat)
  case atStart => exact ⟨0, by go_num, by omega, fun s u hs => absurd hs (Nat.not_lt_zero s), T0⟩
  case round =>
    clear T0
    obtain ⟨k, rfl, hk, HLE, T1⟩ := hrel
    obtain ⟨wk, rfl⟩ : ∃ u : World, u = wr := ⟨_, rfl⟩
    have Q0 := Lib.hid (T1.out.call (Below.refl _ _).drew)
    go_upto_region 2 with fail
    go_cut [19] (fun s19 wx => s19 = .bool (decide (k < M1)) ∧ Hid (C3 w a1 n1 cap1 z1 p1 i1 a2 n2 cap2 z2 p2 i2 a3 n3 cap3 z3 p3 i3 wx))
    case first =>
      by_cases hss : sa < sh
      · have hs1 : (sa : Int) < (sh : Int) := by omega
        have hs2 : ¬ (sh : Int) < (sa : Int) := by omega
        have hs3 : ¬ (sh : Int) ≤ (sa : Int) := by omega
        have hs4 : (sa : Int) ≤ (sh : Int) := by omega
        have hsum := HMA.out.1 hss
        refine wp_region_keeps (fun u => (u.cell? ⟨w.heap.size, 0, none⟩ = some (.slice a1 n1 cap1) ∧ u.cell? ⟨w.heap.size, 1, none⟩ = some (.int .i64 p1) ∧ u.cell? ⟨w.heap.size, 2, none⟩ = some (.int .i64 i1)) ∧ (u.cell? ⟨w.heap.size + 1, 0, none⟩ = some (.slice a2 n2 cap2) ∧ u.cell? ⟨w.heap.size + 1, 1, none⟩ = some (.int .i64 p2) ∧ u.cell? ⟨w.heap.size + 1, 2, none⟩ = some (.int .i64 i2)) ∧ (u.cell? ⟨w.heap.size + 1 + 1, 0, none⟩ = some (.slice a3 n3 cap3) ∧ u.cell? ⟨w.heap.size + 1 + 1, 1, none⟩ = some (.int .i64 p3) ∧ u.cell? ⟨w.heap.size + 1 + 1, 2, none⟩ = some (.int .i64 i3)) ∧ Hid (C3 w a1 n1 cap1 z1 p1 i1 a2 n2 cap2 z2 p2 i2 a3 n3 cap3 z3 p3 i3 u)) 8 1 (by kernel_rfl) (by kernel_rfl) (KS.out _ Q0.out) (fun hHeld0 => ?_)
        refine wpAnyK_take (i := 0) (v := ?_) rfl (by kernel_rfl) (fun _ _ _ h => h) (Or.inl ⟨by rfl, ?_⟩) (by assumption) ?_
        rotate_left
        · (intro w hSw; (try dsimp only at hSw); go_simp; try with_reducible rfl)
        try simp only [Act.put, List.getElem_toArray, List.getElem_cons_zero, List.getElem_cons_succ, List.setIfInBounds_toArray, List.set_cons_zero, List.set_cons_succ]
        refine wpAnyK_take (i := 1) (v := ?_) rfl (by kernel_rfl) (fun _ _ _ h => h) (Or.inl ⟨by rfl, ?_⟩) (by assumption) ?_
        rotate_left
        · (intro w hSw; (try dsimp only at hSw); go_simp; try with_reducible rfl)
        try simp only [Act.put, List.getElem_toArray, List.getElem_cons_zero, List.getElem_cons_succ, List.setIfInBounds_toArray, List.set_cons_zero, List.set_cons_succ]
        refine wpAnyK_take (i := 3) (v := ?_) rfl (by kernel_rfl) (fun _ _ _ h => h) (Or.inl ⟨by rfl, ?_⟩) (by assumption) ?_
        rotate_left
        · (intro w hSw; (try dsimp only at hSw); go_simp; try with_reducible rfl)
        try simp only [Act.put, List.getElem_toArray, List.getElem_cons_zero, List.getElem_cons_succ, List.setIfInBounds_toArray, List.set_cons_zero, List.set_cons_succ]
        refine wpAnyK_take (i := 6) (v := ?_) rfl (by kernel_rfl) (fun _ _ _ h => h) (Or.inl ⟨by rfl, ?_⟩) (by assumption) ?_
        rotate_left
        · (intro w hSw; (try dsimp only at hSw); go_simp; try with_reducible rfl)
        try simp only [Act.put, List.getElem_toArray, List.getElem_cons_zero, List.getElem_cons_succ, List.setIfInBounds_toArray, List.set_cons_zero, List.set_cons_succ]
        refine wpAnyK_step (i := 2) rfl (by kernel_rfl) (fun K hK => ?_)
        go_simp
        with_reducible refine (start7 a1 n1 cap1 p1 i1 B1.out.1 B1.out.2.1 sa HI.out.1 _).mono ?_
        rintro e y1 ⟨rfl, hb⟩
        have Q1 := Lib.hid (Q0.out.call hb)
        clear hb
        refine hK.out _ _ (KS.out _ Q1.out) (fun hHeld1 => ?_)
        clear hK K hHeld0
        try simp only [Act.put, List.getElem_toArray, List.getElem_cons_zero, List.getElem_cons_succ, List.setIfInBounds_toArray, List.set_cons_zero, List.set_cons_succ]
        refine wpAnyK_step (i := 4) rfl (by kernel_rfl) (fun K hK => ?_)
        go_simp
        with_reducible refine (start7 a3 n3 cap3 p3 i3 B1.out.2.2.2.2.1 B1.out.2.2.2.2.2 sh HI.out.2.2 _).mono ?_
        rintro e y2 ⟨rfl, hb⟩
        have Q2 := Lib.hid (Q1.out.call hb)
        clear hb
        refine hK.out _ _ (KS.out _ Q2.out) (fun hHeld2 => ?_)
        clear hK K hHeld1
        try simp only [Act.put, List.getElem_toArray, List.getElem_cons_zero, List.getElem_cons_succ, List.setIfInBounds_toArray, List.set_cons_zero, List.set_cons_succ]
        refine wpAnyK_take (i := 5) (v := ?_) rfl (by kernel_rfl) (fun _ _ _ h => h) (Or.inl ⟨by rfl, ?_⟩) (by assumption) ?_
        rotate_left
        · (intro w hSw; (try dsimp only at hSw); go_simp; try with_reducible rfl)
        try simp only [Act.put, List.getElem_toArray, List.getElem_cons_zero, List.getElem_cons_succ, List.setIfInBounds_toArray, List.set_cons_zero, List.set_cons_succ]
        refine wpAnyK_take (i := 7) (v := ?_) rfl (by kernel_rfl) (fun _ _ _ h => h) (Or.inl ⟨by rfl, ?_⟩) (by assumption) ?_
        rotate_left
        · (intro w hSw; (try dsimp only at hSw); go_simp; try with_reducible rfl)
        try simp only [Act.put, List.getElem_toArray, List.getElem_cons_zero, List.getElem_cons_succ, List.setIfInBounds_toArray, List.set_cons_zero, List.set_cons_succ]
        refine wpAnyK_done (by kernel_rfl) ?_
        simp only [List.drop_succ_cons, List.drop_zero]
        clear hHeld2
        have hdk : decide ((k : Int) < (M1 : Int)) = decide (k < M1) := by simp
        go_wp2_with fail
        go_meet
        exact ⟨by first | rfl | simp [hdk, hsum, hw1], Q2⟩
      · have hs1 : ¬ (sa : Int) < (sh : Int) := by omega
        have hsum := HMA.out.2.1 hss
        have hs4 : (sh : Int) ≤ (sa : Int) := by omega
        refine wp_region_keeps (fun u => (u.cell? ⟨w.heap.size, 0, none⟩ = some (.slice a1 n1 cap1) ∧ u.cell? ⟨w.heap.size, 1, none⟩ = some (.int .i64 p1) ∧ u.cell? ⟨w.heap.size, 2, none⟩ = some (.int .i64 i1)) ∧ (u.cell? ⟨w.heap.size + 1, 0, none⟩ = some (.slice a2 n2 cap2) ∧ u.cell? ⟨w.heap.size + 1, 1, none⟩ = some (.int .i64 p2) ∧ u.cell? ⟨w.heap.size + 1, 2, none⟩ = some (.int .i64 i2)) ∧ (u.cell? ⟨w.heap.size + 1 + 1, 0, none⟩ = some (.slice a3 n3 cap3) ∧ u.cell? ⟨w.heap.size + 1 + 1, 1, none⟩ = some (.int .i64 p3) ∧ u.cell? ⟨w.heap.size + 1 + 1, 2, none⟩ = some (.int .i64 i3)) ∧ Hid (C3 w a1 n1 cap1 z1 p1 i1 a2 n2 cap2 z2 p2 i2 a3 n3 cap3 z3 p3 i3 u)) 8 1 (by kernel_rfl) (by kernel_rfl) (KS.out _ Q0.out) (fun hHeld0 => ?_)
        refine wpAnyK_take (i := 0) (v := ?_) rfl (by kernel_rfl) (fun _ _ _ h => h) (Or.inl ⟨by rfl, ?_⟩) (by assumption) ?_
        rotate_left
        · (intro w hSw; (try dsimp only at hSw); go_simp; try with_reducible rfl)
        try simp only [Act.put, List.getElem_toArray, List.getElem_cons_zero, List.getElem_cons_succ, List.setIfInBounds_toArray, List.set_cons_zero, List.set_cons_succ]
        refine wpAnyK_take (i := 1) (v := ?_) rfl (by kernel_rfl) (fun _ _ _ h => h) (Or.inl ⟨by rfl, ?_⟩) (by assumption) ?_
        rotate_left
        · (intro w hSw; (try dsimp only at hSw); go_simp; try with_reducible rfl)
        try simp only [Act.put, List.getElem_toArray, List.getElem_cons_zero, List.getElem_cons_succ, List.setIfInBounds_toArray, List.set_cons_zero, List.set_cons_succ]
        refine wpAnyK_take (i := 3) (v := ?_) rfl (by kernel_rfl) (fun _ _ _ h => h) (Or.inl ⟨by rfl, ?_⟩) (by assumption) ?_
        rotate_left
        · (intro w hSw; (try dsimp only at hSw); go_simp; try with_reducible rfl)
        try simp only [Act.put, List.getElem_toArray, List.getElem_cons_zero, List.getElem_cons_succ, List.setIfInBounds_toArray, List.set_cons_zero, List.set_cons_succ]
        refine wpAnyK_take (i := 6) (v := ?_) rfl (by kernel_rfl) (fun _ _ _ h => h) (Or.inl ⟨by rfl, ?_⟩) (by assumption) ?_
        rotate_left
        · (intro w hSw; (try dsimp only at hSw); go_simp; try with_reducible rfl)
        try simp only [Act.put, List.getElem_toArray, List.getElem_cons_zero, List.getElem_cons_succ, List.setIfInBounds_toArray, List.set_cons_zero, List.set_cons_succ]
        refine wpAnyK_step (i := 2) rfl (by kernel_rfl) (fun K hK => ?_)
        go_simp
        with_reducible refine (start7 a1 n1 cap1 p1 i1 B1.out.1 B1.out.2.1 sa HI.out.1 _).mono ?_
        rintro e y1 ⟨rfl, hb⟩
        have Q1 := Lib.hid (Q0.out.call hb)
        clear hb
        refine hK.out _ _ (KS.out _ Q1.out) (fun hHeld1 => ?_)
        clear hK K hHeld0
        try simp only [Act.put, List.getElem_toArray, List.getElem_cons_zero, List.getElem_cons_succ, List.setIfInBounds_toArray, List.set_cons_zero, List.set_cons_succ]
        refine wpAnyK_step (i := 4) rfl (by kernel_rfl) (fun K hK => ?_)
        go_simp
        with_reducible refine (start7 a3 n3 cap3 p3 i3 B1.out.2.2.2.2.1 B1.out.2.2.2.2.2 sh HI.out.2.2 _).mono ?_
        rintro e y2 ⟨rfl, hb⟩
        have Q2 := Lib.hid (Q1.out.call hb)
        clear hb
        refine hK.out _ _ (KS.out _ Q2.out) (fun hHeld2 => ?_)
        clear hK K hHeld1
        try simp only [Act.put, List.getElem_toArray, List.getElem_cons_zero, List.getElem_cons_succ, List.setIfInBounds_toArray, List.set_cons_zero, List.set_cons_succ]
        refine wpAnyK_take (i := 5) (v := ?_) rfl (by kernel_rfl) (fun _ _ _ h => h) (Or.inl ⟨by rfl, ?_⟩) (by assumption) ?_
        rotate_left
        · (intro w hSw; (try dsimp only at hSw); go_simp; try with_reducible rfl)
        try simp only [Act.put, List.getElem_toArray, List.getElem_cons_zero, List.getElem_cons_succ, List.setIfInBounds_toArray, List.set_cons_zero, List.set_cons_succ]
        refine wpAnyK_take (i := 7) (v := ?_) rfl (by kernel_rfl) (fun _ _ _ h => h) (Or.inl ⟨by rfl, ?_⟩) (by assumption) ?_
        rotate_left
        · (intro w hSw; (try dsimp only at hSw); go_simp; try with_reducible rfl)
        try simp only [Act.put, List.getElem_toArray, List.getElem_cons_zero, List.getElem_cons_succ, List.setIfInBounds_toArray, List.set_cons_zero, List.set_cons_succ]
        refine wpAnyK_done (by kernel_rfl) ?_
        simp only [List.drop_succ_cons, List.drop_zero]
        clear hHeld2
        have hdk : decide ((k : Int) < (M1 : Int)) = decide (k < M1) := by simp
        go_wp2_with fail
        go_meet
        exact ⟨by first | rfl | simp [hdk, hsum, hw1], Q2⟩
    case rest =>
    obtain ⟨rfl, T2⟩ := hcut
    obtain ⟨w2, rfl⟩ : ∃ u : World, u = wc := ⟨_, rfl⟩
    clear T1 Q0
    by_cases hlt : k < M1
    · have hd : decide (k < M1) = true := decide_eq_true hlt
      rw [hd]
      go_wp2_with fail
      go_loopw [10] (fun s10 wx => ∃ j : Nat, s10 = .int .i64 j ∧ j ≤ M2 ∧ Hid (∀ u, u < j → Le7 z1 p1 i1 z2 p2 i2 z3 p3 i3 k u) ∧ Hid (C3 w a1 n1 cap1 z1 p1 i1 a2 n2 cap2 z2 p2 i2 a3 n3 cap3 z3 p3 i3 wx)) (fun s10 _ => M2 - (intOf s10).toNat)
      case atStart => exact ⟨0, by go_num, by omega, fun u hu => absurd hu (Nat.not_lt_zero u), T2⟩
      case round =>
        clear T2
        obtain ⟨j, rfl, hj, HLJ, T3⟩ := hrel
        obtain ⟨w3, rfl⟩ : ∃ u : World, u = wr := ⟨_, rfl⟩
        have Q0 := Lib.hid (T3.out.call (Below.refl _ _).drew)
        go_upto_region 5 with fail
        go_cut [30] (fun s30 wx => s30 = .bool (decide (j < M2)) ∧ Hid (C3 w a1 n1 cap1 z1 p1 i1 a2 n2 cap2 z2 p2 i2 a3 n3 cap3 z3 p3 i3 wx))
        case first =>
          by_cases hss : sb < sh
          · have hs1 : (sb : Int) < (sh : Int) := by omega
            have hs2 : ¬ (sh : Int) < (sb : Int) := by omega
            have hs3 : ¬ (sh : Int) ≤ (sb : Int) := by omega
            have hs4 : (sb : Int) ≤ (sh : Int) := by omega
            have hsum := HMA.out.2.2.1 hss
            refine wp_region_keeps (fun u => (u.cell? ⟨w.heap.size, 0, none⟩ = some (.slice a1 n1 cap1) ∧ u.cell? ⟨w.heap.size, 1, none⟩ = some (.int .i64 p1) ∧ u.cell? ⟨w.heap.size, 2, none⟩ = some (.int .i64 i1)) ∧ (u.cell? ⟨w.heap.size + 1, 0, none⟩ = some (.slice a2 n2 cap2) ∧ u.cell? ⟨w.heap.size + 1, 1, none⟩ = some (.int .i64 p2) ∧ u.cell? ⟨w.heap.size + 1, 2, none⟩ = some (.int .i64 i2)) ∧ (u.cell? ⟨w.heap.size + 1 + 1, 0, none⟩ = some (.slice a3 n3 cap3) ∧ u.cell? ⟨w.heap.size + 1 + 1, 1, none⟩ = some (.int .i64 p3) ∧ u.cell? ⟨w.heap.size + 1 + 1, 2, none⟩ = some (.int .i64 i3)) ∧ Hid (C3 w a1 n1 cap1 z1 p1 i1 a2 n2 cap2 z2 p2 i2 a3 n3 cap3 z3 p3 i3 u)) 8 1 (by kernel_rfl) (by kernel_rfl) (KS.out _ Q0.out) (fun hHeld0 => ?_)
            refine wpAnyK_take (i := 0) (v := ?_) rfl (by kernel_rfl) (fun _ _ _ h => h) (Or.inl ⟨by rfl, ?_⟩) (by assumption) ?_
            rotate_left
            · (intro w hSw; (try dsimp only at hSw); go_simp; try with_reducible rfl)
            try simp only [Act.put, List.getElem_toArray, List.getElem_cons_zero, List.getElem_cons_succ, List.setIfInBounds_toArray, List.set_cons_zero, List.set_cons_succ]
            refine wpAnyK_take (i := 1) (v := ?_) rfl (by kernel_rfl) (fun _ _ _ h => h) (Or.inl ⟨by rfl, ?_⟩) (by assumption) ?_
            rotate_left
            · (intro w hSw; (try dsimp only at hSw); go_simp; try with_reducible rfl)
            try simp only [Act.put, List.getElem_toArray, List.getElem_cons_zero, List.getElem_cons_succ, List.setIfInBounds_toArray, List.set_cons_zero, List.set_cons_succ]
            refine wpAnyK_take (i := 3) (v := ?_) rfl (by kernel_rfl) (fun _ _ _ h => h) (Or.inl ⟨by rfl, ?_⟩) (by assumption) ?_
            rotate_left
            · (intro w hSw; (try dsimp only at hSw); go_simp; try with_reducible rfl)
            try simp only [Act.put, List.getElem_toArray, List.getElem_cons_zero, List.getElem_cons_succ, List.setIfInBounds_toArray, List.set_cons_zero, List.set_cons_succ]
            refine wpAnyK_take (i := 6) (v := ?_) rfl (by kernel_rfl) (fun _ _ _ h => h) (Or.inl ⟨by rfl, ?_⟩) (by assumption) ?_
            rotate_left
            · (intro w hSw; (try dsimp only at hSw); go_simp; try with_reducible rfl)
            try simp only [Act.put, List.getElem_toArray, List.getElem_cons_zero, List.getElem_cons_succ, List.setIfInBounds_toArray, List.set_cons_zero, List.set_cons_succ]
            refine wpAnyK_step (i := 2) rfl (by kernel_rfl) (fun K hK => ?_)
            go_simp
            with_reducible refine (start7 a2 n2 cap2 p2 i2 B1.out.2.2.1 B1.out.2.2.2.1 sb HI.out.2.1 _).mono ?_
            rintro e y1 ⟨rfl, hb⟩
            have Q1 := Lib.hid (Q0.out.call hb)
            clear hb
            refine hK.out _ _ (KS.out _ Q1.out) (fun hHeld1 => ?_)
            clear hK K hHeld0
            try simp only [Act.put, List.getElem_toArray, List.getElem_cons_zero, List.getElem_cons_succ, List.setIfInBounds_toArray, List.set_cons_zero, List.set_cons_succ]
            refine wpAnyK_step (i := 4) rfl (by kernel_rfl) (fun K hK => ?_)
            go_simp
            with_reducible refine (start7 a3 n3 cap3 p3 i3 B1.out.2.2.2.2.1 B1.out.2.2.2.2.2 sh HI.out.2.2 _).mono ?_
            rintro e y2 ⟨rfl, hb⟩
            have Q2 := Lib.hid (Q1.out.call hb)
            clear hb
            refine hK.out _ _ (KS.out _ Q2.out) (fun hHeld2 => ?_)
            clear hK K hHeld1
            try simp only [Act.put, List.getElem_toArray, List.getElem_cons_zero, List.getElem_cons_succ, List.setIfInBounds_toArray, List.set_cons_zero, List.set_cons_succ]
            refine wpAnyK_take (i := 5) (v := ?_) rfl (by kernel_rfl) (fun _ _ _ h => h) (Or.inl ⟨by rfl, ?_⟩) (by assumption) ?_
            rotate_left
            · (intro w hSw; (try dsimp only at hSw); go_simp; try with_reducible rfl)
            try simp only [Act.put, List.getElem_toArray, List.getElem_cons_zero, List.getElem_cons_succ, List.setIfInBounds_toArray, List.set_cons_zero, List.set_cons_succ]
            refine wpAnyK_take (i := 7) (v := ?_) rfl (by kernel_rfl) (fun _ _ _ h => h) (Or.inl ⟨by rfl, ?_⟩) (by assumption) ?_
            rotate_left
            · (intro w hSw; (try dsimp only at hSw); go_simp; try with_reducible rfl)
            try simp only [Act.put, List.getElem_toArray, List.getElem_cons_zero, List.getElem_cons_succ, List.setIfInBounds_toArray, List.set_cons_zero, List.set_cons_succ]
            refine wpAnyK_done (by kernel_rfl) ?_
            simp only [List.drop_succ_cons, List.drop_zero]
            clear hHeld2
            have hdk : decide ((j : Int) < (M2 : Int)) = decide (j < M2) := by simp
            go_wp2_with fail
            go_meet
            exact ⟨by first | rfl | simp [hdk, hsum, hw2], Q2⟩
          · have hs1 : ¬ (sb : Int) < (sh : Int) := by omega
            have hsum := HMA.out.2.2.2 hss
            have hs4 : (sh : Int) ≤ (sb : Int) := by omega
            refine wp_region_keeps (fun u => (u.cell? ⟨w.heap.size, 0, none⟩ = some (.slice a1 n1 cap1) ∧ u.cell? ⟨w.heap.size, 1, none⟩ = some (.int .i64 p1) ∧ u.cell? ⟨w.heap.size, 2, none⟩ = some (.int .i64 i1)) ∧ (u.cell? ⟨w.heap.size + 1, 0, none⟩ = some (.slice a2 n2 cap2) ∧ u.cell? ⟨w.heap.size + 1, 1, none⟩ = some (.int .i64 p2) ∧ u.cell? ⟨w.heap.size + 1, 2, none⟩ = some (.int .i64 i2)) ∧ (u.cell? ⟨w.heap.size + 1 + 1, 0, none⟩ = some (.slice a3 n3 cap3) ∧ u.cell? ⟨w.heap.size + 1 + 1, 1, none⟩ = some (.int .i64 p3) ∧ u.cell? ⟨w.heap.size + 1 + 1, 2, none⟩ = some (.int .i64 i3)) ∧ Hid (C3 w a1 n1 cap1 z1 p1 i1 a2 n2 cap2 z2 p2 i2 a3 n3 cap3 z3 p3 i3 u)) 8 1 (by kernel_rfl) (by kernel_rfl) (KS.out _ Q0.out) (fun hHeld0 => ?_)
            refine wpAnyK_take (i := 0) (v := ?_) rfl (by kernel_rfl) (fun _ _ _ h => h) (Or.inl ⟨by rfl, ?_⟩) (by assumption) ?_
            rotate_left
            · (intro w hSw; (try dsimp only at hSw); go_simp; try with_reducible rfl)
            try simp only [Act.put, List.getElem_toArray, List.getElem_cons_zero, List.getElem_cons_succ, List.setIfInBounds_toArray, List.set_cons_zero, List.set_cons_succ]
            refine wpAnyK_take (i := 1) (v := ?_) rfl (by kernel_rfl) (fun _ _ _ h => h) (Or.inl ⟨by rfl, ?_⟩) (by assumption) ?_
            rotate_left
            · (intro w hSw; (try dsimp only at hSw); go_simp; try with_reducible rfl)
            try simp only [Act.put, List.getElem_toArray, List.getElem_cons_zero, List.getElem_cons_succ, List.setIfInBounds_toArray, List.set_cons_zero, List.set_cons_succ]
            refine wpAnyK_take (i := 3) (v := ?_) rfl (by kernel_rfl) (fun _ _ _ h => h) (Or.inl ⟨by rfl, ?_⟩) (by assumption) ?_
            rotate_left
            · (intro w hSw; (try dsimp only at hSw); go_simp; try with_reducible rfl)
            try simp only [Act.put, List.getElem_toArray, List.getElem_cons_zero, List.getElem_cons_succ, List.setIfInBounds_toArray, List.set_cons_zero, List.set_cons_succ]
            refine wpAnyK_take (i := 6) (v := ?_) rfl (by kernel_rfl) (fun _ _ _ h => h) (Or.inl ⟨by rfl, ?_⟩) (by assumption) ?_
            rotate_left
            · (intro w hSw; (try dsimp only at hSw); go_simp; try with_reducible rfl)
            try simp only [Act.put, List.getElem_toArray, List.getElem_cons_zero, List.getElem_cons_succ, List.setIfInBounds_toArray, List.set_cons_zero, List.set_cons_succ]
            refine wpAnyK_step (i := 2) rfl (by kernel_rfl) (fun K hK => ?_)
            go_simp
            with_reducible refine (start7 a2 n2 cap2 p2 i2 B1.out.2.2.1 B1.out.2.2.2.1 sb HI.out.2.1 _).mono ?_
            rintro e y1 ⟨rfl, hb⟩
            have Q1 := Lib.hid (Q0.out.call hb)
            clear hb
            refine hK.out _ _ (KS.out _ Q1.out) (fun hHeld1 => ?_)
            clear hK K hHeld0
            try simp only [Act.put, List.getElem_toArray, List.getElem_cons_zero, List.getElem_cons_succ, List.setIfInBounds_toArray, List.set_cons_zero, List.set_cons_succ]
            refine wpAnyK_step (i := 4) rfl (by kernel_rfl) (fun K hK => ?_)
            go_simp
            with_reducible refine (start7 a3 n3 cap3 p3 i3 B1.out.2.2.2.2.1 B1.out.2.2.2.2.2 sh HI.out.2.2 _).mono ?_
            rintro e y2 ⟨rfl, hb⟩
            have Q2 := Lib.hid (Q1.out.call hb)
            clear hb
            refine hK.out _ _ (KS.out _ Q2.out) (fun hHeld2 => ?_)
            clear hK K hHeld1
            try simp only [Act.put, List.getElem_toArray, List.getElem_cons_zero, List.getElem_cons_succ, List.setIfInBounds_toArray, List.set_cons_zero, List.set_cons_succ]
            refine wpAnyK_take (i := 5) (v := ?_) rfl (by kernel_rfl) (fun _ _ _ h => h) (Or.inl ⟨by rfl, ?_⟩) (by assumption) ?_
            rotate_left
            · (intro w hSw; (try dsimp only at hSw); go_simp; try with_reducible rfl)
            try simp only [Act.put, List.getElem_toArray, List.getElem_cons_zero, List.getElem_cons_succ, List.setIfInBounds_toArray, List.set_cons_zero, List.set_cons_succ]
            refine wpAnyK_take (i := 7) (v := ?_) rfl (by kernel_rfl) (fun _ _ _ h => h) (Or.inl ⟨by rfl, ?_⟩) (by assumption) ?_
            rotate_left
            · (intro w hSw; (try dsimp only at hSw); go_simp; try with_reducible rfl)
            try simp only [Act.put, List.getElem_toArray, List.getElem_cons_zero, List.getElem_cons_succ, List.setIfInBounds_toArray, List.set_cons_zero, List.set_cons_succ]
            refine wpAnyK_done (by kernel_rfl) ?_
            simp only [List.drop_succ_cons, List.drop_zero]
            clear hHeld2
            have hdk : decide ((j : Int) < (M2 : Int)) = decide (j < M2) := by simp
            go_wp2_with fail
            go_meet
            exact ⟨by first | rfl | simp [hdk, hsum, hw2], Q2⟩
        case rest =>
        obtain ⟨rfl, T4⟩ := hcut
        obtain ⟨w4, rfl⟩ : ∃ u : World, u = wc := ⟨_, rfl⟩
        clear T3 Q0
        by_cases hjt : j < M2
        · have hd2 : decide (j < M2) = true := decide_eq_true hjt
          rw [hd2]
          have Q0 := Lib.hid (T4.out.call (Below.refl _ _).drew)
          obtain ⟨vx, hvx⟩ : ∃ v, atC z1 p1 i1 k = v := ⟨_, rfl⟩
          obtain ⟨vy, hvy⟩ : ∃ v, atC z2 p2 i2 j = v := ⟨_, rfl⟩
          obtain ⟨vp, hvp⟩ : ∃ v, plI vx vy = v := ⟨_, rfl⟩
          have MX := Lib.hid (show Mid vx ∧ Mid vy by rw [← hvx, ← hvy]; exact ⟨at_mid2 HG.out.1 (by omega), at_mid2 HG.out.2 (by omega)⟩)
          have HLK := Lib.hid (show Le7 z1 p1 i1 z2 p2 i2 z3 p3 i3 k j ↔ (Good z3 p3 i3 → atC z3 p3 i3 (k + j) ≤ vp) by unfold Le7; rw [hvx, hvy, hvp])
          have HVV := Lib.hid (And.intro hvx (And.intro hvy hvp))
          obtain ⟨m, hm⟩ : ∃ m, k + j = m := ⟨_, rfl⟩
          have hmi : (k : Int) + (j : Int) = (m : Int) := by omega
          have hmw : IntKind.i64.wrap (m : Int) = (m : Int) := IntWalk.i64_in _ ⟨by omega, by omega⟩
          have hmb : m ≤ 20000 := by omega
          rw [hm] at HLK
          clear hvx hvy hvp
          go_upto_region 7 with fail
          go_cut [45] (fun s45 wx => ∃ vh : Int, s45 = .bool (decide (vp < vh)) ∧ Hid (Good z3 p3 i3 → vh = atC z3 p3 i3 m) ∧ Hid (C3 w a1 n1 cap1 z1 p1 i1 a2 n2 cap2 z2 p2 i2 a3 n3 cap3 z3 p3 i3 wx))
          case first =>
            refine wp_region_keeps (fun u => (u.cell? ⟨w.heap.size, 0, none⟩ = some (.slice a1 n1 cap1) ∧ u.cell? ⟨w.heap.size, 1, none⟩ = some (.int .i64 p1) ∧ u.cell? ⟨w.heap.size, 2, none⟩ = some (.int .i64 i1)) ∧ (u.cell? ⟨w.heap.size + 1, 0, none⟩ = some (.slice a2 n2 cap2) ∧ u.cell? ⟨w.heap.size + 1, 1, none⟩ = some (.int .i64 p2) ∧ u.cell? ⟨w.heap.size + 1, 2, none⟩ = some (.int .i64 i2)) ∧ (u.cell? ⟨w.heap.size + 1 + 1, 0, none⟩ = some (.slice a3 n3 cap3) ∧ u.cell? ⟨w.heap.size + 1 + 1, 1, none⟩ = some (.int .i64 p3) ∧ u.cell? ⟨w.heap.size + 1 + 1, 2, none⟩ = some (.int .i64 i3)) ∧ Hid (C3 w a1 n1 cap1 z1 p1 i1 a2 n2 cap2 z2 p2 i2 a3 n3 cap3 z3 p3 i3 u)) 12 1 (by kernel_rfl) (by kernel_rfl) (KS.out _ Q0.out) (fun hHeld0 => ?_)
            refine wpAnyK_take (i := 0) (v := ?_) rfl (by kernel_rfl) (fun _ _ _ h => h) (Or.inl ⟨by rfl, ?_⟩) (by assumption) ?_
            rotate_left
            · (intro w hSw; (try dsimp only at hSw); go_simp; try with_reducible rfl)
            try simp only [Act.put, List.getElem_toArray, List.getElem_cons_zero, List.getElem_cons_succ, List.setIfInBounds_toArray, List.set_cons_zero, List.set_cons_succ]
            refine wpAnyK_take (i := 1) (v := ?_) rfl (by kernel_rfl) (fun _ _ _ h => h) (Or.inl ⟨by rfl, ?_⟩) (by assumption) ?_
            rotate_left
            · (intro w hSw; (try dsimp only at hSw); go_simp; try with_reducible rfl)
            try simp only [Act.put, List.getElem_toArray, List.getElem_cons_zero, List.getElem_cons_succ, List.setIfInBounds_toArray, List.set_cons_zero, List.set_cons_succ]
            refine wpAnyK_take (i := 2) (v := ?_) rfl (by kernel_rfl) (fun _ _ _ h => h) (Or.inl ⟨by rfl, ?_⟩) (by assumption) ?_
            rotate_left
            · (intro w hSw; (try dsimp only at hSw); go_simp; try with_reducible rfl)
            try simp only [Act.put, List.getElem_toArray, List.getElem_cons_zero, List.getElem_cons_succ, List.setIfInBounds_toArray, List.set_cons_zero, List.set_cons_succ]
            refine wpAnyK_take (i := 3) (v := ?_) rfl (by kernel_rfl) (fun _ _ _ h => h) (Or.inl ⟨by rfl, ?_⟩) (by assumption) ?_
            rotate_left
            · (intro w hSw; (try dsimp only at hSw); go_simp; try with_reducible rfl)
            try simp only [Act.put, List.getElem_toArray, List.getElem_cons_zero, List.getElem_cons_succ, List.setIfInBounds_toArray, List.set_cons_zero, List.set_cons_succ]
            refine wpAnyK_take (i := 5) (v := ?_) rfl (by kernel_rfl) (fun _ _ _ h => h) (Or.inl ⟨by rfl, ?_⟩) (by assumption) ?_
            rotate_left
            · (intro w hSw; (try dsimp only at hSw); go_simp; try with_reducible rfl)
            try simp only [Act.put, List.getElem_toArray, List.getElem_cons_zero, List.getElem_cons_succ, List.setIfInBounds_toArray, List.set_cons_zero, List.set_cons_succ]
            refine wpAnyK_take (i := 6) (v := ?_) rfl (by kernel_rfl) (fun _ _ _ h => h) (Or.inl ⟨by rfl, ?_⟩) (by assumption) ?_
            rotate_left
            · (intro w hSw; (try dsimp only at hSw); go_simp; try with_reducible rfl)
            try simp only [Act.put, List.getElem_toArray, List.getElem_cons_zero, List.getElem_cons_succ, List.setIfInBounds_toArray, List.set_cons_zero, List.set_cons_succ]
            refine wpAnyK_take (i := 8) (v := ?_) rfl (by kernel_rfl) (fun _ _ _ h => h) (Or.inl ⟨by rfl, ?_⟩) (by assumption) ?_
            rotate_left
            · (intro w hSw; (try dsimp only at hSw); go_simp; try with_reducible rfl)
            try simp only [Act.put, List.getElem_toArray, List.getElem_cons_zero, List.getElem_cons_succ, List.setIfInBounds_toArray, List.set_cons_zero, List.set_cons_succ]
            refine wpAnyK_take (i := 9) (v := ?_) rfl (by kernel_rfl) (fun _ _ _ h => h) (Or.inl ⟨by rfl, ?_⟩) (by assumption) ?_
            rotate_left
            · (intro w hSw; (try dsimp only at hSw); go_simp; try with_reducible rfl)
            try simp only [Act.put, List.getElem_toArray, List.getElem_cons_zero, List.getElem_cons_succ, List.setIfInBounds_toArray, List.set_cons_zero, List.set_cons_succ]
            refine wpAnyK_step (i := 4) rfl (by kernel_rfl) (fun K hK => ?_)
            go_simp
            with_reducible refine (rat_tot a3 n3 cap3 z3 p3 i3 HT.out m m rfl (by omega) _ Q0.out.h.row).mono ?_
            rintro e y1 ⟨vh, hvh, rfl, hb⟩
            have HVH := Lib.hid hvh
            have Q1 := Lib.hid (Q0.out.call hb)
            clear hb hvh
            refine hK.out _ _ (KS.out _ Q1.out) (fun hHeld1 => ?_)
            clear hK K hHeld0
            try simp only [Act.put, List.getElem_toArray, List.getElem_cons_zero, List.getElem_cons_succ, List.setIfInBounds_toArray, List.set_cons_zero, List.set_cons_succ]
            refine wpAnyK_step (i := 7) rfl (by kernel_rfl) (fun K hK => ?_)
            go_simp
            with_reducible refine (rat_at a1 n1 cap1 z1 p1 i1 HG.out.1 k k rfl (by omega) vx HVV.out.1 _ Q1.out.f.row).mono ?_
            rintro e y2 ⟨rfl, hb⟩
            have Q2 := Lib.hid (Q1.out.call hb)
            clear hb
            refine hK.out _ _ (KS.out _ Q2.out) (fun hHeld2 => ?_)
            clear hK K hHeld1
            try simp only [Act.put, List.getElem_toArray, List.getElem_cons_zero, List.getElem_cons_succ, List.setIfInBounds_toArray, List.set_cons_zero, List.set_cons_succ]
            refine wpAnyK_step (i := 10) rfl (by kernel_rfl) (fun K hK => ?_)
            go_simp
            with_reducible refine (rat_at a2 n2 cap2 z2 p2 i2 HG.out.2 j j rfl (by omega) vy HVV.out.2.1 _ Q2.out.g.row).mono ?_
            rintro e y3 ⟨rfl, hb⟩
            have Q3 := Lib.hid (Q2.out.call hb)
            clear hb
            refine hK.out _ _ (KS.out _ Q3.out) (fun hHeld3 => ?_)
            clear hK K hHeld2
            try simp only [Act.put, List.getElem_toArray, List.getElem_cons_zero, List.getElem_cons_succ, List.setIfInBounds_toArray, List.set_cons_zero, List.set_cons_succ]
            refine wpAnyK_step (i := 11) rfl (by kernel_rfl) (fun K hK => ?_)
            go_simp
            with_reducible refine (plus7 vx vy MX.out.1 MX.out.2 vp HVV.out.2.2 _).mono ?_
            rintro e y4 ⟨rfl, rfl⟩

            refine hK.out _ _ (KS.out _ Q3.out) (fun hHeld4 => ?_)
            clear hK K hHeld3
            try simp only [Act.put, List.getElem_toArray, List.getElem_cons_zero, List.getElem_cons_succ, List.setIfInBounds_toArray, List.set_cons_zero, List.set_cons_succ]
            refine wpAnyK_done (by kernel_rfl) ?_
            simp only [List.drop_succ_cons, List.drop_zero]
            clear hHeld4
            go_wp2_with fail
            go_meet
            exact ⟨vh, rfl, HVH, Q3⟩
          case rest =>
          obtain ⟨vh, rfl, HVH, T5⟩ := hcut
          obtain ⟨w5, rfl⟩ : ∃ u : World, u = wc := ⟨_, rfl⟩
          clear T4 Q0
          by_cases hgt : vp < vh
          · have hd3 : decide (vp < vh) = true := decide_eq_true hgt
            rw [hd3]
            go_wp2_with fail
            go_ret
            refine ⟨false, rfl, T5.out.below, fun g => ⟨fun h => (by cases h), fun h => ?_⟩⟩
            have h1 := HLK.out.1 (h k j (by rw [HM.out.1]; exact hlt) (by rw [HM.out.2]; exact hjt)) g
            rw [← HVH.out g] at h1
            omega
          · have hd3 : decide (vp < vh) = false := decide_eq_false hgt
            rw [hd3]
            go_wp2_with fail
            go_roundw
            case rel => exact ⟨j + 1, by go_num, by omega, fun u hu => by
              by_cases e : u = j
              · subst e; exact HLK.out.2 fun g => by rw [← HVH.out g]; omega
              · exact HLJ.out u (by omega), T5⟩
            case measure => simp [intOf]; omega
        · have hd2 : decide (j < M2) = false := decide_eq_false hjt
          rw [hd2]
          obtain rfl : j = M2 := by omega
          go_wp2_with fail
          go_roundw
          case rel => exact ⟨k + 1, by go_num, by omega, fun s u hs hu => by
            by_cases e : s = k
            · subst e; exact HLJ.out u hu
            · exact HLE.out s u (by omega) hu, T4⟩
          case measure => simp [intOf]; omega
    · have hd : decide (k < M1) = false := decide_eq_false hlt
      rw [hd]
      obtain rfl : k = M1 := by omega
      go_wp2_with fail
      go_ret
      exact ⟨true, rfl, T2.out.below, fun g => ⟨fun _ s u hs hu => HLE.out s u (by rw [← HM.out.1]; exact hs) (by rw [← HM.out.2]; exact hu), fun _ => rfl⟩⟩

end Go.Proofs.Ythljhddnfflpjaa

namespace Go.Proofs.Ythljhddnfflpjaa
open Go.RowKit
set_option linter.unusedSimpArgs false
set_option linter.unusedVariables false

section
variable {z1 z2 : List Int} {p1 p2 : Nat} {i1 i2 : Int}
theorem slope_inf (g : Good z1 p1 i1) (k : Good z2 p2 i2) {L : Nat} (hL2 : L ≤ 120) (h : convG z1 p1 i1 z2 p2 i2 L = infV) {t : Nat} (ht : z1.length - p1 + (z2.length - p2) ≤ t + 1) : (eConv z1 p1 i1 z2 p2 i2) t = none := by
  unfold convG at h
  by_cases h0 : plI (atC z1 p1 i1 0) (atC z2 p2 i2 0) = infV
  · exact conv_inf g k h0 t
  · rw [if_neg h0] at h
    obtain ⟨b1, b2⟩ := grow_bd g hL2
    obtain ⟨b3, b4⟩ := grow_bd k hL2
    by_cases f1 : InfC z1
    · by_cases f2 : InfC z2
      · exact conv_both g k f1 f2 ht
      · rw [growI_mul f2] at h; unfold infV at h; omega
    · rw [growI_mul f1] at h; unfold infV at h; omega

/-- If all ticks of one period are attained by ticks that repeat, the list tells the convolution. -/
theorem guess_raw (g : Good z1 p1 i1) (k : Good z2 p2 i2) {L : Nat} (hL : Mult p1 p2 L) (hL2 : L ≤ 120) {fr : Nat} (hfr : z1.length - p1 + (z2.length - p2) + L ≤ fr) (hf2 : fr ≤ 1100) {Q : Int} {fin : Bool} (hS : SlopeIs z1 p1 i1 z2 p2 i2 L Q fin)
    (hsp : ∀ t, fr ≤ t → t < fr + L → ∃ s, s ≤ t ∧ Att7 z1 p1 i1 z2 p2 i2 (encF (eConv z1 p1 i1 z2 p2 i2) t) Q L t true s) : RawE (firsts (encF (eConv z1 p1 i1 z2 p2 i2)) (fr + L)) L Q (eConv z1 p1 i1 z2 p2 i2) := by
  have hL1 := hL.one
  obtain ⟨b1, b2⟩ := grow_bd g hL2
  obtain ⟨b3, b4⟩ := grow_bd k hL2
  have bd : ∀ t, t < fr + L → ∀ x, (eConv z1 p1 i1 z2 p2 i2) t = some x → 0 ≤ x ∧ x ≤ 2251799813685248 := fun t ht x hx => by have := conv_bd g k hx; omega
  have mk : ∀ (q0 : 0 ≤ Q ∧ Q ≤ 35184372088832), ((∀ t, ¬ (eConv z1 p1 i1 z2 p2 i2) t = none) → Per (encF (eConv z1 p1 i1 z2 p2 i2)) fr L Q) → ((∃ t, (eConv z1 p1 i1 z2 p2 i2) t = none) → ∃ t, t < fr + L ∧ (eConv z1 p1 i1 z2 p2 i2) t = none) → RawE (firsts (encF (eConv z1 p1 i1 z2 p2 i2)) (fr + L)) L Q (eConv z1 p1 i1 z2 p2 i2) := fun q0 h1 h2 =>
    rawE_of (by omega) hL1 (by omega) (by omega) q0 (fun t h => conv_up g k h) bd (by rw [Nat.add_sub_cancel]; exact h1) h2
  rcases hS with ⟨h, rfl, _⟩ | ⟨h, hQ, _⟩
  · have hno := slope_inf g k hL2 h (t := fr) (by omega)
    exact mk (by omega) (fun hs => absurd hno (hs fr)) fun _ => ⟨fr, by omega, hno⟩
  · have h0 : ¬ plI (atC z1 p1 i1 0) (atC z2 p2 i2 0) = infV := fun e => h (by unfold convG; rw [if_pos e])
    have hG : Q = min (growI z1 p1 i1 L) (growI z2 p2 i2 L) := by rw [hQ]; unfold convG; rw [if_neg h0]
    have hfin : (∀ t, ∃ c, (eConv z1 p1 i1 z2 p2 i2) t = some c) → Per (encF (eConv z1 p1 i1 z2 p2 i2)) fr L Q → 0 ≤ Q ∧ Q ≤ 35184372088832 → RawE (firsts (encF (eConv z1 p1 i1 z2 p2 i2)) (fr + L)) L Q (eConv z1 p1 i1 z2 p2 i2) := fun h1 h2 q0 =>
      mk q0 (fun _ => h2) fun ⟨t, ht⟩ => by obtain ⟨c, hc⟩ := h1 t; rw [hc] at ht; cases ht
    by_cases f1 : InfC z1
    · by_cases f2 : InfC z2
      · exact absurd (show convG z1 p1 i1 z2 p2 i2 L = infV by unfold convG; rw [if_neg h0, growI_inf f1, growI_inf f2]; omega) h
      · obtain ⟨c1, c2⟩ := conv_one k g f2 f1 (fun e => h0 (by rw [e, plI_l])) hL.dq
        rw [← eConv_comm] at c1 c2
        have e : Q = i2 * ((L / p2 : Nat) : Int) := by rw [hG, growI_inf f1, growI_mul f2]; unfold infV; omega
        rw [← e] at c2
        exact hfin c1 (c2.mono (by omega)) (by omega)
    · by_cases f2 : InfC z2
      · obtain ⟨c1, c2⟩ := conv_one g k f1 f2 (fun e => h0 (by rw [e, plI_r])) hL.dp
        have e : Q = i1 * ((L / p1 : Nat) : Int) := by rw [hG, growI_inf f2, growI_mul f1]; unfold infV; omega
        rw [← e] at c2
        exact hfin c1 (c2.mono (by omega)) (by omega)
      · obtain ⟨hs, hc⟩ := conv_fin (p := p1) (inc := i1) (q := p2) (jnc := i2) f1 f2
        have hx := g.perM f1 hL.dp (Nat.le_refl _)
        have hy := k.perM f2 hL.dq (Nat.le_refl _)
        rw [growI_mul f1, growI_mul f2] at hG
        have hP : Per (encF (eConv z1 p1 i1 z2 p2 i2)) fr L (min (i1 * ((L / p1 : Nat) : Int)) (i2 * ((L / p2 : Nat) : Int))) := hc.all hx hy hL1 hfr fun t h1 h2 => by
          have low := hc.lower hx hy (t := t) (by omega)
          obtain ⟨s, s1, s2, s3⟩ := hsp t h1 h2
          obtain ⟨c, hcc⟩ := hs t
          have hcb := conv_bd g k hcc
          have ev : encF (eConv z1 p1 i1 z2 p2 i2) t = c := encF_some hcc
          have n1 : ¬ atC z1 p1 i1 s = infV := fun e => by rw [e, plI_l, ev] at s2; unfold infV at s2; omega
          have n2 : ¬ atC z2 p2 i2 (t - s) = infV := fun e => by rw [e, plI_r, ev] at s2; unfold infV at s2; omega
          rw [plI_fin n1 n2] at s2
          rcases s3 with h3 | h3 | h3
          · cases h3
          · rw [ev] at h3; unfold infV at h3; omega
          · rcases h3 with ⟨_, k2, k3⟩ | ⟨_, k2, k3⟩
            · have up := hc.upper hx s1 k3 s2.symm
              omega
            · have up := hc.upper' hy s1 k3 s2.symm
              omega
        rw [← hG] at hP
        exact hfin hs hP (by omega)

/-- If there is a curve, the ticks far behind are attained so. -/
theorem guess_full (g : Good z1 p1 i1) (k : Good z2 p2 i2) {L : Nat} (hL : Mult p1 p2 L) (hL2 : L ≤ 120) {Q : Int} {fin : Bool} (hS : SlopeIs z1 p1 i1 z2 p2 i2 L Q fin) (hc : ECan (eConv z1 p1 i1 z2 p2 i2)) {t : Nat} (h1 : 800 + 2 * L ≤ t) (h2 : t ≤ 2000) :
    ∃ s, s ≤ t ∧ Att7 z1 p1 i1 z2 p2 i2 (encF (eConv z1 p1 i1 z2 p2 i2) t) Q L t true s := by
  obtain ⟨zz, pp, ii, gg, he⟩ := hc
  obtain ⟨hs, r, knc, hn⟩ := gg.norm_ex
  have hf : EForm hs r knc (eConv z1 p1 i1 z2 p2 i2) := by have := hn.eform gg; rwa [show eC zz pp ii = (eConv z1 p1 i1 z2 p2 i2) from funext he] at this
  obtain ⟨e1, _, _⟩ := form_grow g k hf hL hL2
  obtain ⟨s, s1, s2, s3⟩ := att_ex g k hf hL hL2 (t := t) (by omega)
  have ev := eform_at hf t
  rw [ev] at s2 s3
  refine ⟨s, s1, s2, .inr ?_⟩
  have n1 := g.few; have n2 := k.few; have n3 := hf.1.few; have m1 := g.p1; have m2 := k.p1; have m3 := hf.1.p1
  rcases hS with ⟨h, rfl, _⟩ | ⟨h, hQ, _⟩
  · exact .inl (encF_none (slope_inf g k hL2 h (by omega)))
  · rcases s3 with h3 | h3 | ⟨h3, h4⟩ | ⟨h3, h4⟩
    · unfold hori at h3; omega
    · exact .inl h3
    · refine .inr (.inl ?_)
      have f1 : ¬ InfC z1 := fun f => h (by rw [← e1, ← h3, growI_inf f])
      exact ⟨f1, by rw [← growI_mul f1, h3, e1, hQ], h4⟩
    · refine .inr (.inr ?_)
      have f2 : ¬ InfC z2 := fun f => h (by rw [← e1, ← h3, growI_inf f])
      exact ⟨f2, by rw [← growI_mul f2, h3, e1, hQ], h4⟩

theorem guess_below (g : Good z1 p1 i1) (k : Good z2 p2 i2) {hs : List Int} {r : Nat} {knc : Int} (h : EForm hs r knc (eConv z1 p1 i1 z2 p2 i2)) {L : Nat} (hL2 : L ≤ 120) :
    ∀ s u, s < max (z1.length - p1) (hs.length - r) + L → u < max (z2.length - p2) (hs.length - r) + L → Le7 z1 p1 i1 z2 p2 i2 hs r knc s u := fun s u h1 h2 _ => by
  have n1 := g.few; have n2 := k.few; have n3 := h.1.few
  exact below_ex g k h (by omega) (by omega)
end

/-- The normal form of a raw curve, and its form. -/
def GivesL2 (E : Nat → Option Int) (w : World) (e : Ending) (w' : World) : Prop :=
  ∃ (a : Option Addr) (n cap : Nat) (zs : List Int) (p : Nat) (inc : Int), e = .returned (curV a n cap p inc) ∧ Below w.heap.size w w' ∧ RowZ w' a n cap zs ∧ (In64 p ∧ In64 inc) ∧ TotC n p inc ∧ (Good zs p inc → EForm zs p inc E) ∧ (¬ Good zs p inc → ¬ ECan E) ∧ ∀ x, a = some x → w.heap.size ≤ x.block
theorem rleast_e2 (a : Option Addr) (n cap : Nat) (zs : List Int) (P : Nat) (inc : Int) {E : Nat → Option Int} (hE : RawE zs P inc E) (w : World) (h : RowZ w a n cap zs) :
    Calls Try.prog 143 #[curV a n cap P inc] w (GivesL2 E w) := by
  rcases hE with ⟨hr, he⟩ | ⟨hf, i, hi, hz, hj, he⟩
  · refine (rleast_raw a n cap zs P inc hr w h).mono ?_
    rintro e w1 ⟨a1, n1, cap1, s, r, c, rfl, hb, hr1, hn, h2, h3, hx⟩
    obtain ⟨k1, k2⟩ := raw_form hr he hn
    have hl := hr1.len
    rw [firsts_length] at hl
    have q1 := hn.start_le hr.per hr.p1
    have q2 := hn.per_le hr.per hr.p1
    have q3 := hr.few; have q4 := hr.p3; have q5 := hn.pos
    exact ⟨a1, n1, cap1, _, r, c, rfl, hb, hr1, ⟨⟨by omega, by omega⟩, by omega, by omega⟩, ⟨q5, by omega, by omega⟩, k1, k2, hx⟩
  · refine (rleast_rawinf a n cap zs P inc hf i hi hz hj w h).mono ?_
    rintro e w1 ⟨a1, n1, cap1, rfl, hb, hr1, hx⟩
    obtain ⟨k1, k2⟩ := raw_inf hi hz hj he
    have hl := hr1.len
    rw [List.length_take] at hl
    exact ⟨a1, n1, cap1, _, 1, 0, rfl, hb, hr1, ⟨⟨by omega, by omega⟩, by omega, by omega⟩, ⟨by omega, by omega, by omega⟩, k1, k2, hx⟩

def GivesGuess (E : Nat → Option Int) (far : Prop) (w : World) (e : Ending) (w' : World) : Prop :=
  ∃ (a : Option Addr) (n cap : Nat) (zs : List Int) (p : Nat) (inc : Int) (ok : Bool), e = .returned (.tuple #[curV a n cap p inc, .bool ok]) ∧ Below w.heap.size w w' ∧ RowZ w' a n cap zs ∧ (In64 p ∧ In64 inc) ∧ (ok = true → (Good zs p inc → EForm zs p inc E) ∧ (¬ Good zs p inc → ¬ ECan E)) ∧ (far → ECan E → ok = true) ∧ ∀ x, a = some x → w.heap.size ≤ x.block
theorem guess_post {E : Nat → Option Int} {far : Prop} {w w1 w2 : World} {b : Nat} (hB : Below w.heap.size w w1) (hb1 : w.heap.size ≤ b) (h2 : Below w1.heap.size w1 w2) {a : Option Addr} {n cap : Nat} {zs : List Int} {p : Nat} {inc : Int} {ok : Bool} (hr : RowZ w2 a n cap zs)
    (hx : ∀ x, a = some x → w.heap.size ≤ x.block ∧ x.block ≠ b) (h64 : In64 p ∧ In64 inc) (hs : ok = true → (Good zs p inc → EForm zs p inc E) ∧ (¬ Good zs p inc → ¬ ECan E)) (hc : far → ECan E → ok = true) :
    GivesGuess E far w (.returned (.tuple #[curV a n cap p inc, .bool ok])) (((w2.setCell ⟨b, 0, none⟩ (.slice a n cap)).setCell ⟨b, 1, none⟩ (.int .i64 p)).setCell ⟨b, 2, none⟩ (.int .i64 inc)) := by
  have hne : ∀ x : Addr, a = some x → 1 ≤ n → x.block ≠ b := fun x h _ => (hx x h).2
  exact ⟨a, n, cap, zs, p, inc, ok, rfl, below_set3 (hB.trans (h2.mono hB.size)) hb1 _ _ _, ((hr.store hne _ _).store hne _ _).store hne _ _, h64, hs, hc, fun x h => (hx x h).1⟩

theorem Bx.lay3 {u : World} {F B : Nat} {a : Option Addr} {n cap p : Nat} {inc : Int} {zs : List Int} (h : Bx u F a n cap p inc zs) (hB : ¬ F = B) (hx : ∀ x, a = some x → 1 ≤ n → x.block ≠ B) (y0 y1 y2 : Value) : Bx (((u.setCell ⟨B, 0, none⟩ y0).setCell ⟨B, 1, none⟩ y1).setCell ⟨B, 2, none⟩ y2) F a n cap p inc zs :=
  ⟨((h.box.other hB _ _).other hB _ _).other hB _ _, ((h.row.store hx _ _).store hx _ _).store hx _ _⟩
/-- The three curves' boxes at the end of guess. -/
structure GQ (w : World) (O : Nat) (a1 : Option Addr) (n1 cap1 : Nat) (z1 : List Int) (p1 : Nat) (i1 : Int) (a2 : Option Addr) (n2 cap2 : Nat) (z2 : List Int) (p2 : Nat) (i2 : Int) (a9 : Option Addr) (n9 cap9 : Nat) (z9 : List Int) (p9 : Nat) (i9 : Int) (u : World) : Prop where
  f : Bx u w.heap.size a1 n1 cap1 p1 i1 z1
  g : Bx u (w.heap.size + 1) a2 n2 cap2 p2 i2 z2
  h : Bx u O a9 n9 cap9 p9 i9 z9
theorem GQ.call {w u v : World} {O : Nat} {a1 : Option Addr} {n1 cap1 : Nat} {z1 : List Int} {p1 : Nat} {i1 : Int} {a2 : Option Addr} {n2 cap2 : Nat} {z2 : List Int} {p2 : Nat} {i2 : Int} {a9 : Option Addr} {n9 cap9 : Nat} {z9 : List Int} {p9 : Nat} {i9 : Int} (k : GQ w O a1 n1 cap1 z1 p1 i1 a2 n2 cap2 z2 p2 i2 a9 n9 cap9 z9 p9 i9 u) (hb : Below u.heap.size u v) : GQ w O a1 n1 cap1 z1 p1 i1 a2 n2 cap2 z2 p2 i2 a9 n9 cap9 z9 p9 i9 v := ⟨k.f.under hb, k.g.under hb, k.h.under hb⟩

set_option maxRecDepth 100000 in
set_option maxHeartbeats 6400000 in
theorem guess7 (a1 : Option Addr) (n1 cap1 : Nat) (z1 : List Int) (p1 : Nat) (i1 : Int) (g1 : Good z1 p1 i1) (a2 : Option Addr) (n2 cap2 : Nat) (z2 : List Int) (p2 : Nat) (i2 : Int) (g2 : Good z2 p2 i2) (L : Nat) (hL : Mult p1 p2 L) (hL2 : L ≤ 120) (fr : Nat) (hfr : z1.length - p1 + (z2.length - p2) + L ≤ fr) (hf2 : fr ≤ 1100) (w : World) (h1 : RowZ w a1 n1 cap1 z1) (h2 : RowZ w a2 n2 cap2 z2) :
    Calls Try.prog 118 #[curV a1 n1 cap1 p1 i1, curV a2 n2 cap2 p2 i2, .int .i64 L, .int .i64 fr] w (GivesGuess (eConv z1 p1 i1 z2 p2 i2) (fr = 800 + 2 * L) w) := by
  obtain ⟨ii0, ihi, ihz0, ihz1, ihz2⟩ := info_parts info_int
  obtain ⟨W, hW⟩ : ∃ W, ((w.alloc (.cells #[.slice a1 n1 cap1, .int .i64 p1, .int .i64 i1] 24)).alloc (.cells #[.slice a2 n2 cap2, .int .i64 p2, .int .i64 i2] 24)).alloc (.cells #[.slice none 0 0, .int .i64 0, .int .i64 0] 24) = W := ⟨_, rfl⟩
  obtain ⟨⟨hB, hWs⟩, k1, k2, kr⟩ := boxesB w a1 n1 cap1 p1 i1 a2 n2 cap2 p2 i2 hW
  have HB := Lib.hid hB
  have KR := Lib.hid kr
  have HWS := Lib.hid hWs
  have XA := Lib.hid (show Bx W w.heap.size a1 n1 cap1 p1 i1 z1 from ⟨k1, h1.under hB⟩)
  have XB := Lib.hid (show Bx W (w.heap.size + 1) a2 n2 cap2 p2 i2 z2 from ⟨k2, h2.under hB⟩)
  have HG := Lib.hid (And.intro g1 g2)
  have FR := Lib.hid (And.intro h1.far h2.far)
  have HM := Lib.hid (And.intro hL hfr)
  have hL1 : 1 ≤ L := hL.one
  obtain ⟨Q, fin, hS⟩ : ∃ Q fin, SlopeIs z1 p1 i1 z2 p2 i2 L Q fin := by
    by_cases h : convG z1 p1 i1 z2 p2 i2 L = infV
    · exact ⟨0, false, .inl ⟨h, rfl, rfl⟩⟩
    · exact ⟨_, true, .inr ⟨h, rfl, rfl⟩⟩
  have HS := Lib.hid hS
  have HQB := Lib.hid (show 0 ≤ Q ∧ Q ≤ 128849018880 by
    obtain ⟨b1, b2⟩ := grow_bd g1 hL2
    obtain ⟨b3, b4⟩ := grow_bd g2 hL2
    rcases hS with ⟨_, rfl, _⟩ | ⟨h, rfl, _⟩
    · omega
    · unfold convG at h ⊢
      by_cases h0 : plI (atC z1 p1 i1 0) (atC z2 p2 i2 0) = infV
      · rw [if_pos h0] at h; exact absurd rfl h
      · rw [if_neg h0] at h ⊢
        by_cases f1 : InfC z1
        · by_cases f2 : InfC z2
          · rw [growI_inf f1, growI_inf f2] at h; exact absurd (by omega) h
          · rw [growI_inf f1, growI_mul f2]; unfold infV; omega
        · by_cases f2 : InfC z2
          · rw [growI_inf f2, growI_mul f1]; unfold infV; omega
          · rw [growI_mul f1, growI_mul f2]; omega)
  have HW := Lib.hid hW
  obtain ⟨N, hN⟩ : ∃ N, fr + L = N := ⟨_, rfl⟩
  have hNi : (fr : Int) + (L : Int) = (N : Int) := by omega
  have hNw : IntKind.i64.wrap (N : Int) = (N : Int) := IntWalk.i64_in _ ⟨by omega, by omega⟩
  have hNb : N ≤ 1300 := by omega
  have HN := Lib.hid hN
  obtain ⟨f, hf⟩ : ∃ f, encF (eConv z1 p1 i1 z2 p2 i2) = f := ⟨_, rfl⟩
  have HF := Lib.hid hf
  have HIN := Lib.hid (show ∀ t, t < N → In64 (f t) from fun t ht => by
    have h := (conv_mid g1 g2 (t := t) (by omega))
    rw [hf] at h
    exact ⟨by have := h.bd; omega, by have := h.bd; omega⟩)
  obtain ⟨m0, m1, m2, m3, m4, m5⟩ := k1
  obtain ⟨u0, u1, u2, u3, u4, u5⟩ := k2
  clear hB kr hWs h1 h2 g1 g2 hL hfr hS hW hN hf
  go_enter Try.func118, Try.ntmps118
  go_upto_region 1 with fail
  try rw [HW.out]
  go_wp2_with fail
  clear m0 m1 m2 m3 m4 m5 u0 u1 u2 u3 u4 u5
  refine (slope7 a1 n1 cap1 z1 p1 i1 HG.out.1 a2 n2 cap2 z2 p2 i2 HG.out.2 L hL2 Q fin HS.out _ XA.out.row XB.out.row).mono ?_
  rintro e W2 ⟨rfl, hb⟩
  have XA2 := Lib.hid (XA.out.under hb)
  have XB2 := Lib.hid (XB.out.under hb)
  have KR2 := Lib.hid (KR.out.below hb)
  have HB2 := Lib.hid (HB.out.trans (hb.mono HB.out.size))
  have HSZ := Lib.hid (show w.heap.size + 3 ≤ W2.heap.size by have := hb.size; have := HWS.out; omega)
  have L0 := Lib.hid (Ap.start W2 (L : Int) Q f)
  have FX := Lib.hid (show ∀ u, Below W2.heap.size W2 u → (Bx u w.heap.size a1 n1 cap1 p1 i1 z1 ∧ Bx u (w.heap.size + 1) a2 n2 cap2 p2 i2 z2) ∧ Cur3 u (w.heap.size + 2) (.slice none 0 0) (.int .i64 0) (.int .i64 0) from fun u hu => ⟨⟨XA2.out.under hu, XB2.out.under hu⟩, KR2.out.below hu⟩)
  clear hb XA XB KR HB HW
  go_wp2_with fail
  go_loopw [13] (fun s13 wx => ∃ (k : Nat) (sv : Value), s13 = .int .i64 k ∧ k ≤ N ∧ Hid (∀ t, fr ≤ t → t < k → ∃ s, s ≤ t ∧ Att7 z1 p1 i1 z2 p2 i2 (f t) Q L t true s) ∧ Hid (Ap W2 (L : Int) Q f k sv wx)) (fun s13 _ => N - (intOf s13).toNat)
  case atStart => exact ⟨0, .slice none 0 0, by go_num, by omega, fun t _ ht => absurd ht (Nat.not_lt_zero t), L0⟩
  case round =>
    clear L0
    obtain ⟨k, sv, rfl, hk, HSP, HA⟩ := hrel
    obtain ⟨wk, rfl⟩ : ∃ u : World, u = wr := ⟨_, rfl⟩
    have Y1 := Lib.hid (FX.out _ HA.out.below)
    obtain ⟨c0, c1, c2, c3, c4, c5⟩ := Y1.out.1.1.box
    obtain ⟨d0, d1, d2, d3, d4, d5⟩ := Y1.out.1.2.box
    by_cases hlt : k < N
    · have hlt' : (k : Int) < (N : Int) := by omega
      obtain ⟨vv, hvv⟩ : ∃ v, f k = v := ⟨_, rfl⟩
      have HVV := Lib.hid hvv
      clear hvv
      go_wp2_with fail
      clear c0 c1 c2 c3 c4 c5 d0 d1 d2 d3 d4 d5
      with_reducible refine (least7 a1 n1 cap1 z1 p1 i1 HG.out.1 a2 n2 cap2 z2 p2 i2 HG.out.2 k (by omega) vv (by rw [HF.out]; exact HVV.out) _ Y1.out.1.1.row Y1.out.1.2.row).mono ?_
      rintro e w7 ⟨rfl, hb⟩
      have L7 := Lib.hid (HA.out.under hb)
      clear hb HA Y1
      have N8 : Hid (∀ j u, [Value.int .i64 vv][j]? = some u → (w7.alloc (.cells #[.int .i64 vv] 3)).cell? ((⟨w7.heap.size, 0, none⟩ : Addr).add j) = some u) := Lib.hid (World.news_of_block (cs := #[.int .i64 vv]) (t := 3) (fr := (0, 0)) (heap_alloc_new w7 _))
      have L8 := Lib.hid (L7.out.alloc (.cells #[.int .i64 vv] 3))
      obtain ⟨o0, o1, o2, o3, o4, o5⟩ := L7.out.out
      go_wp2_with (at_builtin; refine wpList_append_own _ rfl _ _ 22 rfl (W2.heap.size + 1) 3 ii0 (.int .i64 0) 1 8 Try.underlying22 ihi ihz0 ihz1 ihz2 rfl (by decide) _ _ _ rfl L8.out.own ⟨w7.heap.size, 0, none⟩ 1 1 [.int .i64 vv] rfl rfl N8.out ?c2 ?c3 ?c4 ?c5 ?_)
      case c2 => intro u hu; simp at hu; subst hu; rfl
      case c3 => unfold maxLen; omega
      case c4 => omega
      case c5 => exact L8.out.out.lt
      intro v' w9 hown' hgrow _
      obtain ⟨g9, cap9, rfl, hg9, hg9'⟩ := hown'.form (Nat.succ_pos _)
      obtain ⟨lnext, kout⟩ := L8.out.push hown' hgrow HVV.out
      have L10 := Lib.hid lnext
      obtain ⟨w10, hw10⟩ : ∃ u, w9.setCell ⟨W2.heap.size, 0, none⟩ (.slice (some ⟨g9, 0, none⟩) (k + 1) cap9) = u := ⟨_, rfl⟩
      rw [hw10] at L10
      have HW10 := Lib.hid hw10
      clear hown' hgrow lnext hw10 L7 L8 N8 o0 o1 o2 o3 o4 o5
      obtain ⟨o0, o1, o2, o3, o4, o5⟩ := kout
      go_upto_region 8 with fail
      try rw [HW10.out]
      clear o0 o1 o2 o3 o4 o5
      have Y2 := Lib.hid (FX.out _ L10.out.below)
      obtain ⟨c0, c1, c2, c3, c4, c5⟩ := Y2.out.1.1.box
      obtain ⟨d0, d1, d2, d3, d4, d5⟩ := Y2.out.1.2.box
      by_cases hge : fr ≤ k
      rotate_left
      · have hge' : ¬ (fr : Int) ≤ (k : Int) := by omega
        have hge2 : decide (fr ≤ k) = false := decide_eq_false hge
        go_wp2_with fail
        go_roundw
        case rel => exact ⟨k + 1, _, by go_num, by omega, fun t h1 h2 => HSP.out t h1 (by omega), L10⟩
        case measure => simp [intOf]; omega
      have hge' : (fr : Int) ≤ (k : Int) := by omega
      have hge2 : decide (fr ≤ k) = true := decide_eq_true hge
      go_wp2_with fail
      clear c0 c1 c2 c3 c4 c5 d0 d1 d2 d3 d4 d5
      with_reducible refine (split7 a1 n1 cap1 z1 p1 i1 HG.out.1 a2 n2 cap2 z2 p2 i2 HG.out.2 vv Q L k true hL2 (by omega) _ Y2.out.1.1.row Y2.out.1.2.row).mono ?_
      rintro e w11 ⟨r, rfl, hb, ⟨rfl, hno⟩ | ⟨s, rfl, hs, hat, hbf⟩⟩
      · have L11 := Lib.hid (L10.out.under hb)
        have Y3 := Lib.hid (FX.out _ L11.out.below)
        obtain ⟨g, cap, hsv, RL, XL⟩ := L11.out.row (by omega) (by omega) (fun t ht => HIN.out t (by omega))
        obtain ⟨rfl, rfl⟩ : g = g9 ∧ cap = cap9 := by cases hsv; exact ⟨rfl, rfl⟩
        have HP := Lib.hid (guess_post (E := (eConv z1 p1 i1 z2 p2 i2)) (far := fr = 800 + 2 * L) (ok := false) (b := w.heap.size + 2) (p := L) (inc := Q) (HB2.out.trans (L11.out.below.mono HB2.out.size)) (by omega) (Below.refl _ _) RL (fun x hx => by cases hx; have := HSZ.out; exact ⟨by show w.heap.size ≤ g; omega, by show g ≠ w.heap.size + 2; omega⟩) ⟨⟨by omega, by omega⟩, by have := HQB.out; omega, by have := HQB.out; omega⟩ (fun h => by cases h) (fun hf hc => by
          exfalso
          obtain ⟨s, s1, s2⟩ := guess_full HG.out.1 HG.out.2 HM.out.1 hL2 HS.out hc (t := k) (by omega) (by omega)
          rw [HF.out, HVV.out] at s2
          exact hno s s1 s2))
        have hm1 : ¬ (0 : Int) ≤ -1 := by omega
        obtain ⟨o0, o1, o2, o3, o4, o5⟩ := L11.out.out
        obtain ⟨r0, r1, r2, r3, r4, r5⟩ := Y3.out.2
        clear hb hno hsv RL XL
        go_wp2_with fail
        exact bodyPost_ret (v := .tuple #[curV (some ⟨g, 0, none⟩) (k + 1) cap L Q, .bool false]) (by simp [results, Try.results118, go_sem, r0, r1, r2, o0, o1, o2]) rfl HP.out
      · have L11 := Lib.hid (L10.out.under hb)
        have HAT := Lib.hid hat
        clear hb hat hbf
        have hs0 : ¬ (s : Int) < 0 := by omega
        have hs1 : decide ((s : Int) < 0) = false := decide_eq_false hs0
        go_wp2_with fail
        go_roundw
        case rel => exact ⟨k + 1, _, by go_num, by omega, fun t h1 h2 => by
          by_cases e : t = k
          · subst e; exact ⟨s, hs, by rw [HVV.out]; exact HAT.out⟩
          · exact HSP.out t h1 (by omega), L11⟩
        case measure => simp [intOf]; omega
    · have hlt' : ¬ (k : Int) < (N : Int) := by omega
      obtain rfl : k = N := by omega
      obtain ⟨g, cap, rfl, RL, XL⟩ := HA.out.row (by omega) (by omega) HIN.out
      have RLAST := Lib.hid RL
      have HRAW := Lib.hid (show RawE (firsts f k) L Q (eConv z1 p1 i1 z2 p2 i2) by
        rw [← HF.out, ← HN.out]
        refine guess_raw HG.out.1 HG.out.2 HM.out.1 hL2 HM.out.2 hf2 HS.out fun t h1 h2 => ?_
        have := HSP.out t h1 (by have := HN.out; omega)
        rw [← HF.out] at this; exact this)
      have BL := Lib.hid HA.out.below
      have OL := Lib.hid HA.out.out
      obtain ⟨o0, o1, o2, o3, o4, o5⟩ := HA.out.out
      clear RL HA
      go_wp2_with fail
      clear c0 c1 c2 c3 c4 c5 d0 d1 d2 d3 d4 d5 o0 o1 o2 o3 o4 o5
      refine (rleast_e2 _ _ _ _ _ _ HRAW.out _ RLAST.out).mono ?_
      rintro e v9 ⟨a9, n9, cap9, z9, p9, i9, rfl, hb, hr, h64, htot, hgood, hno, hx⟩
      have O9 := Lib.hid (OL.out.below hb)
      have B9 := Lib.hid (BL.out.trans (hb.mono BL.out.size))
      have H9 := Lib.hid (And.intro h64 (And.intro htot (And.intro hgood hno)))
      have hlo : W2.heap.size < v9.heap.size := O9.out.lt
      have hX9 : ∀ x, a9 = some x → W2.heap.size < x.block := fun x e => by have := hx x e; have := OL.out.lt; omega
      have X9 := Lib.hid hX9
      obtain ⟨V, hV⟩ : ∃ u, ((v9.setCell ⟨W2.heap.size, 0, none⟩ (.slice a9 n9 cap9)).setCell ⟨W2.heap.size, 1, none⟩ (.int .i64 p9)).setCell ⟨W2.heap.size, 2, none⟩ (.int .i64 i9) = u := ⟨_, rfl⟩
      have hq : ∀ x, a9 = some x → 1 ≤ n9 → x.block ≠ W2.heap.size := fun x e _ => by have := hX9 x e; omega
      have XV := Lib.hid (show Bx V W2.heap.size a9 n9 cap9 p9 i9 z9 by rw [← hV]; exact ⟨O9.out.set _ _ _, ((hr.store hq _ _).store hq _ _).store hq _ _⟩)
      have BV := Lib.hid (show Below W2.heap.size W2 V by rw [← hV]; exact below_set3 B9.out (Nat.le_refl _) _ _ _)
      have HV := Lib.hid hV
      obtain ⟨o0, o1, o2, o3, o4, o5⟩ := O9.out
      have tp1 : ¬ (p9 : Int) = 0 := by have := htot.p1; omega
      have tp2 : ¬ p9 = 0 := by have := htot.p1; omega
      obtain ⟨m, hm⟩ : ∃ m, L % p9 = m := ⟨_, rfl⟩
      have hmt : (L : Int).tmod (p9 : Int) = (m : Int) := by rw [Int.tmod_eq_emod_of_nonneg (by omega), ← hm]; exact (Int.natCast_emod _ _).symm
      have hme : (L : Int) % (p9 : Int) = (m : Int) := by rw [← hm]; exact (Int.natCast_emod _ _).symm
      have hmL : m ≤ L := by rw [← hm]; exact Nat.mod_le _ _
      have hmw : IntKind.i64.wrap (m : Int) = (m : Int) := IntWalk.i64_in _ ⟨by omega, by omega⟩
      have HMM := Lib.hid hm
      clear hb hr h64 htot hgood hno hx hX9 hq hV hm
      go_upto_region 11 with fail
      try rw [HV.out]
      clear o0 o1 o2 o3 o4 o5
      have KS := Lib.hid (show ∀ u, GQ w W2.heap.size a1 n1 cap1 z1 p1 i1 a2 n2 cap2 z2 p2 i2 a9 n9 cap9 z9 p9 i9 u → ((u.cell? ⟨w.heap.size, 0, none⟩ = some (.slice a1 n1 cap1) ∧ u.cell? ⟨w.heap.size, 1, none⟩ = some (.int .i64 p1) ∧ u.cell? ⟨w.heap.size, 2, none⟩ = some (.int .i64 i1)) ∧ (u.cell? ⟨w.heap.size + 1, 0, none⟩ = some (.slice a2 n2 cap2) ∧ u.cell? ⟨w.heap.size + 1, 1, none⟩ = some (.int .i64 p2) ∧ u.cell? ⟨w.heap.size + 1, 2, none⟩ = some (.int .i64 i2)) ∧ (u.cell? ⟨W2.heap.size, 0, none⟩ = some (.slice a9 n9 cap9) ∧ u.cell? ⟨W2.heap.size, 1, none⟩ = some (.int .i64 p9) ∧ u.cell? ⟨W2.heap.size, 2, none⟩ = some (.int .i64 i9)) ∧ Hid (GQ w W2.heap.size a1 n1 cap1 z1 p1 i1 a2 n2 cap2 z2 p2 i2 a9 n9 cap9 z9 p9 i9 u)) from fun u h => ⟨⟨h.f.box.c0, h.f.box.c1, h.f.box.c2⟩, ⟨h.g.box.c0, h.g.box.c1, h.g.box.c2⟩, ⟨h.h.box.c0, h.h.box.c1, h.h.box.c2⟩, h⟩)
      have GV := Lib.hid (show GQ w W2.heap.size a1 n1 cap1 z1 p1 i1 a2 n2 cap2 z2 p2 i2 a9 n9 cap9 z9 p9 i9 V from ⟨(FX.out _ BV.out).1.1, (FX.out _ BV.out).1.2, XV.out⟩)
      have Q0 := Lib.hid (And.intro (GV.out.call (Below.refl _ _).drew) (Below.refl V.heap.size V).drew)
      have LAY := Lib.hid (show ∀ u y0 y1 y2, GQ w W2.heap.size a1 n1 cap1 z1 p1 i1 a2 n2 cap2 z2 p2 i2 a9 n9 cap9 z9 p9 i9 u → GQ w W2.heap.size a1 n1 cap1 z1 p1 i1 a2 n2 cap2 z2 p2 i2 a9 n9 cap9 z9 p9 i9 (((u.setCell ⟨w.heap.size + 2, 0, none⟩ y0).setCell ⟨w.heap.size + 2, 1, none⟩ y1).setCell ⟨w.heap.size + 2, 2, none⟩ y2) from fun u y0 y1 y2 h =>
        ⟨h.f.lay3 (by omega) (fun x e q => by have := FR.out.1 x e q; omega) _ _ _, h.g.lay3 (by omega) (fun x e q => by have := FR.out.2 x e q; omega) _ _ _, h.h.lay3 (by have := HSZ.out; omega) (fun x e q => by have := X9.out x e; have := HSZ.out; omega) _ _ _⟩)
      by_cases hm0 : m = 0
      rotate_left
      · have hmb : ((m : Int) == 0) = false := by simp; omega
        have hmb2 : (m == 0) = false := by simp; omega
        obtain ⟨V0, hV0⟩ : ∃ u, V.drew = u := ⟨_, rfl⟩
        rw [hV0] at Q0
        have QZ := Q0
        rw [← hV0] at QZ
        refine wp_region_keeps (fun u => (u.cell? ⟨w.heap.size, 0, none⟩ = some (.slice a1 n1 cap1) ∧ u.cell? ⟨w.heap.size, 1, none⟩ = some (.int .i64 p1) ∧ u.cell? ⟨w.heap.size, 2, none⟩ = some (.int .i64 i1)) ∧ (u.cell? ⟨w.heap.size + 1, 0, none⟩ = some (.slice a2 n2 cap2) ∧ u.cell? ⟨w.heap.size + 1, 1, none⟩ = some (.int .i64 p2) ∧ u.cell? ⟨w.heap.size + 1, 2, none⟩ = some (.int .i64 i2)) ∧ (u.cell? ⟨W2.heap.size, 0, none⟩ = some (.slice a9 n9 cap9) ∧ u.cell? ⟨W2.heap.size, 1, none⟩ = some (.int .i64 p9) ∧ u.cell? ⟨W2.heap.size, 2, none⟩ = some (.int .i64 i9)) ∧ Hid (GQ w W2.heap.size a1 n1 cap1 z1 p1 i1 a2 n2 cap2 z2 p2 i2 a9 n9 cap9 z9 p9 i9 u)) 14 1 (by kernel_rfl) (by kernel_rfl) (KS.out _ QZ.out.1) (fun hHeld0 => ?_)
        refine wpAnyK_take (i := 0) (v := ?_) rfl (by kernel_rfl) (fun _ _ _ h => h) (Or.inl ⟨by rfl, ?_⟩) (by assumption) ?_
        rotate_left
        · (intro w hSw; (try dsimp only at hSw); go_simp; try with_reducible rfl)
        try simp only [Act.put, List.getElem_toArray, List.getElem_cons_zero, List.getElem_cons_succ, List.setIfInBounds_toArray, List.set_cons_zero, List.set_cons_succ]
        refine wpAnyK_take (i := 1) (v := ?_) rfl (by kernel_rfl) (fun _ _ _ h => h) (Or.inl ⟨by rfl, ?_⟩) (by assumption) ?_
        rotate_left
        · (intro w hSw; (try dsimp only at hSw); go_simp; try with_reducible rfl)
        try simp only [Act.put, List.getElem_toArray, List.getElem_cons_zero, List.getElem_cons_succ, List.setIfInBounds_toArray, List.set_cons_zero, List.set_cons_succ]
        refine wpAnyK_take (i := 2) (v := ?_) rfl (by kernel_rfl) (fun _ _ _ h => h) (Or.inl ⟨by rfl, ?_⟩) (by assumption) ?_
        rotate_left
        · (intro w hSw; (try dsimp only at hSw); go_simp; try with_reducible rfl)
        try simp only [Act.put, List.getElem_toArray, List.getElem_cons_zero, List.getElem_cons_succ, List.setIfInBounds_toArray, List.set_cons_zero, List.set_cons_succ]
        refine wpAnyK_take (i := 3) (v := ?_) rfl (by kernel_rfl) (fun _ _ _ h => h) (Or.inl ⟨by rfl, ?_⟩) (by assumption) ?_
        rotate_left
        · (intro w hSw; (try dsimp only at hSw); go_simp; try with_reducible rfl)
        try simp only [Act.put, List.getElem_toArray, List.getElem_cons_zero, List.getElem_cons_succ, List.setIfInBounds_toArray, List.set_cons_zero, List.set_cons_succ]
        refine wpAnyK_take (i := 4) (v := ?_) rfl (by kernel_rfl) (fun _ _ _ h => h) (Or.inl ⟨by rfl, ?_⟩) (by assumption) ?_
        rotate_left
        · (intro w hSw; (try dsimp only at hSw); go_simp; try with_reducible rfl)
        try simp only [Act.put, List.getElem_toArray, List.getElem_cons_zero, List.getElem_cons_succ, List.setIfInBounds_toArray, List.set_cons_zero, List.set_cons_succ]
        refine wpAnyK_take (i := 5) (v := ?_) rfl (by kernel_rfl) (fun _ _ _ h => h) (Or.inl ⟨by rfl, ?_⟩) (by assumption) ?_
        rotate_left
        · (intro w hSw; (try dsimp only at hSw); go_simp; try with_reducible rfl)
        try simp only [Act.put, List.getElem_toArray, List.getElem_cons_zero, List.getElem_cons_succ, List.setIfInBounds_toArray, List.set_cons_zero, List.set_cons_succ]
        refine wpAnyK_take (i := 6) (v := ?_) rfl (by kernel_rfl) (fun _ _ _ h => h) (Or.inl ⟨by rfl, ?_⟩) (by assumption) ?_
        rotate_left
        · (intro w hSw; (try dsimp only at hSw); go_simp; try with_reducible rfl)
        try simp only [Act.put, List.getElem_toArray, List.getElem_cons_zero, List.getElem_cons_succ, List.setIfInBounds_toArray, List.set_cons_zero, List.set_cons_succ]
        refine wpAnyK_take (i := 7) (v := undef) rfl (by kernel_rfl) (fun _ _ _ h => h) (Or.inr ⟨by rfl, rfl⟩) (by assumption) ?_
        try simp only [Act.put, List.getElem_toArray, List.getElem_cons_zero, List.getElem_cons_succ, List.setIfInBounds_toArray, List.set_cons_zero, List.set_cons_succ]
        refine wpAnyK_take (i := 8) (v := undef) rfl (by kernel_rfl) (fun _ _ _ h => h) (Or.inr ⟨by rfl, rfl⟩) (by assumption) ?_
        try simp only [Act.put, List.getElem_toArray, List.getElem_cons_zero, List.getElem_cons_succ, List.setIfInBounds_toArray, List.set_cons_zero, List.set_cons_succ]
        refine wpAnyK_take (i := 9) (v := undef) rfl (by kernel_rfl) (fun _ _ _ h => h) (Or.inr ⟨by rfl, rfl⟩) (by assumption) ?_
        try simp only [Act.put, List.getElem_toArray, List.getElem_cons_zero, List.getElem_cons_succ, List.setIfInBounds_toArray, List.set_cons_zero, List.set_cons_succ]
        refine wpAnyK_take (i := 10) (v := undef) rfl (by kernel_rfl) (fun _ _ _ h => h) (Or.inr ⟨by rfl, rfl⟩) (by assumption) ?_
        try simp only [Act.put, List.getElem_toArray, List.getElem_cons_zero, List.getElem_cons_succ, List.setIfInBounds_toArray, List.set_cons_zero, List.set_cons_succ]
        refine wpAnyK_take (i := 11) (v := undef) rfl (by kernel_rfl) (fun _ _ _ h => h) (Or.inr ⟨by rfl, rfl⟩) (by assumption) ?_
        try simp only [Act.put, List.getElem_toArray, List.getElem_cons_zero, List.getElem_cons_succ, List.setIfInBounds_toArray, List.set_cons_zero, List.set_cons_succ]
        refine wpAnyK_take (i := 12) (v := ?_) rfl (by kernel_rfl) (fun _ _ _ h => h) (Or.inl ⟨by rfl, ?_⟩) (by assumption) ?_
        rotate_left
        · (intro w hSw; (try dsimp only at hSw); go_simp; try with_reducible rfl)
        try simp only [Act.put, List.getElem_toArray, List.getElem_cons_zero, List.getElem_cons_succ, List.setIfInBounds_toArray, List.set_cons_zero, List.set_cons_succ]
        try rw [hV0]
        have YR := Lib.hid (FX.out _ (BV.out.trans (Q0.out.2.mono BV.out.size))).2
        obtain ⟨r0, r1, r2, r3, r4, r5⟩ := YR.out
        refine wpAnyK_step (i := 13) rfl (by kernel_rfl) (fun K hK => ?_)
        go_simp
        refine hK.out _ _ (KS.out _ (LAY.out _ (.slice a9 n9 cap9) (.int .i64 p9) (.int .i64 i9) Q0.out.1)) (fun hHeld9 => ?_)
        clear hK K hHeld0
        try simp only [Act.put, List.getElem_toArray, List.getElem_cons_zero, List.getElem_cons_succ, List.setIfInBounds_toArray, List.set_cons_zero, List.set_cons_succ]
        refine wpAnyK_done (by kernel_rfl) ?_
        simp only [List.drop_succ_cons, List.drop_zero]
        clear hHeld9
        have HP := Lib.hid (guess_post (E := (eConv z1 p1 i1 z2 p2 i2)) (far := fr = 800 + 2 * L) (ok := false) (b := w.heap.size + 2) (p := p9) (inc := i9) (HB2.out.trans (BV.out.mono HB2.out.size)) (by omega) Q0.out.2 (XV.out.row.under Q0.out.2) (fun x hx => by have := X9.out x hx; have := HSZ.out; exact ⟨by omega, by omega⟩) H9.out.1 (fun h => by cases h) (fun _ hc => by
          exfalso
          by_cases g9 : Good z9 p9 i9
          · have := (form_grow HG.out.1 HG.out.2 (H9.out.2.2.1 g9) HM.out.1 hL2).2.1
            rw [HMM.out] at this; exact hm0 this
          · exact H9.out.2.2.2 g9 hc))
        go_wp2_with fail
        exact bodyPost_ret (v := .tuple #[curV a9 n9 cap9 p9 i9, .bool false]) (by simp [results, Try.results118, go_sem, r0, r1, r2]) rfl HP.out
      have hmb : ((m : Int) == 0) = true := by simp; omega
      have hmb2 : (m == 0) = true := by simp; omega
      have QZ := Q0
      refine wp_region_keeps (fun u => (u.cell? ⟨w.heap.size, 0, none⟩ = some (.slice a1 n1 cap1) ∧ u.cell? ⟨w.heap.size, 1, none⟩ = some (.int .i64 p1) ∧ u.cell? ⟨w.heap.size, 2, none⟩ = some (.int .i64 i1)) ∧ (u.cell? ⟨w.heap.size + 1, 0, none⟩ = some (.slice a2 n2 cap2) ∧ u.cell? ⟨w.heap.size + 1, 1, none⟩ = some (.int .i64 p2) ∧ u.cell? ⟨w.heap.size + 1, 2, none⟩ = some (.int .i64 i2)) ∧ (u.cell? ⟨W2.heap.size, 0, none⟩ = some (.slice a9 n9 cap9) ∧ u.cell? ⟨W2.heap.size, 1, none⟩ = some (.int .i64 p9) ∧ u.cell? ⟨W2.heap.size, 2, none⟩ = some (.int .i64 i9)) ∧ Hid (GQ w W2.heap.size a1 n1 cap1 z1 p1 i1 a2 n2 cap2 z2 p2 i2 a9 n9 cap9 z9 p9 i9 u)) 14 1 (by kernel_rfl) (by kernel_rfl) (KS.out _ QZ.out.1) (fun hHeld0 => ?_)
      refine wpAnyK_take (i := 0) (v := ?_) rfl (by kernel_rfl) (fun _ _ _ h => h) (Or.inl ⟨by rfl, ?_⟩) (by assumption) ?_
      rotate_left
      · (intro w hSw; (try dsimp only at hSw); go_simp; try with_reducible rfl)
      try simp only [Act.put, List.getElem_toArray, List.getElem_cons_zero, List.getElem_cons_succ, List.setIfInBounds_toArray, List.set_cons_zero, List.set_cons_succ]
      refine wpAnyK_take (i := 1) (v := ?_) rfl (by kernel_rfl) (fun _ _ _ h => h) (Or.inl ⟨by rfl, ?_⟩) (by assumption) ?_
      rotate_left
      · (intro w hSw; (try dsimp only at hSw); go_simp; try with_reducible rfl)
      try simp only [Act.put, List.getElem_toArray, List.getElem_cons_zero, List.getElem_cons_succ, List.setIfInBounds_toArray, List.set_cons_zero, List.set_cons_succ]
      refine wpAnyK_take (i := 2) (v := ?_) rfl (by kernel_rfl) (fun _ _ _ h => h) (Or.inl ⟨by rfl, ?_⟩) (by assumption) ?_
      rotate_left
      · (intro w hSw; (try dsimp only at hSw); go_simp; try with_reducible rfl)
      try simp only [Act.put, List.getElem_toArray, List.getElem_cons_zero, List.getElem_cons_succ, List.setIfInBounds_toArray, List.set_cons_zero, List.set_cons_succ]
      refine wpAnyK_take (i := 3) (v := ?_) rfl (by kernel_rfl) (fun _ _ _ h => h) (Or.inl ⟨by rfl, ?_⟩) (by assumption) ?_
      rotate_left
      · (intro w hSw; (try dsimp only at hSw); go_simp; try with_reducible rfl)
      try simp only [Act.put, List.getElem_toArray, List.getElem_cons_zero, List.getElem_cons_succ, List.setIfInBounds_toArray, List.set_cons_zero, List.set_cons_succ]
      refine wpAnyK_take (i := 4) (v := ?_) rfl (by kernel_rfl) (fun _ _ _ h => h) (Or.inl ⟨by rfl, ?_⟩) (by assumption) ?_
      rotate_left
      · (intro w hSw; (try dsimp only at hSw); go_simp; try with_reducible rfl)
      try simp only [Act.put, List.getElem_toArray, List.getElem_cons_zero, List.getElem_cons_succ, List.setIfInBounds_toArray, List.set_cons_zero, List.set_cons_succ]
      refine wpAnyK_take (i := 5) (v := ?_) rfl (by kernel_rfl) (fun _ _ _ h => h) (Or.inl ⟨by rfl, ?_⟩) (by assumption) ?_
      rotate_left
      · (intro w hSw; (try dsimp only at hSw); go_simp; try with_reducible rfl)
      try simp only [Act.put, List.getElem_toArray, List.getElem_cons_zero, List.getElem_cons_succ, List.setIfInBounds_toArray, List.set_cons_zero, List.set_cons_succ]
      refine wpAnyK_take (i := 6) (v := ?_) rfl (by kernel_rfl) (fun _ _ _ h => h) (Or.inl ⟨by rfl, ?_⟩) (by assumption) ?_
      rotate_left
      · (intro w hSw; (try dsimp only at hSw); go_simp; try with_reducible rfl)
      try simp only [Act.put, List.getElem_toArray, List.getElem_cons_zero, List.getElem_cons_succ, List.setIfInBounds_toArray, List.set_cons_zero, List.set_cons_succ]
      refine wpAnyK_take (i := 7) (v := ?_) rfl (by kernel_rfl) (fun _ _ _ h => h) (Or.inl ⟨by rfl, ?_⟩) (by assumption) ?_
      rotate_left
      · (intro w hSw; (try dsimp only at hSw); go_simp; try with_reducible rfl)
      try simp only [Act.put, List.getElem_toArray, List.getElem_cons_zero, List.getElem_cons_succ, List.setIfInBounds_toArray, List.set_cons_zero, List.set_cons_succ]
      refine wpAnyK_take (i := 8) (v := ?_) rfl (by kernel_rfl) (fun _ _ _ h => h) (Or.inl ⟨by rfl, ?_⟩) (by assumption) ?_
      rotate_left
      · (intro w hSw; (try dsimp only at hSw); go_simp; try with_reducible rfl)
      try simp only [Act.put, List.getElem_toArray, List.getElem_cons_zero, List.getElem_cons_succ, List.setIfInBounds_toArray, List.set_cons_zero, List.set_cons_succ]
      refine wpAnyK_take (i := 9) (v := ?_) rfl (by kernel_rfl) (fun _ _ _ h => h) (Or.inl ⟨by rfl, ?_⟩) (by assumption) ?_
      rotate_left
      · (intro w hSw; (try dsimp only at hSw); go_simp; try with_reducible rfl)
      try simp only [Act.put, List.getElem_toArray, List.getElem_cons_zero, List.getElem_cons_succ, List.setIfInBounds_toArray, List.set_cons_zero, List.set_cons_succ]
      refine wpAnyK_take (i := 10) (v := ?_) rfl (by kernel_rfl) (fun _ _ _ h => h) (Or.inl ⟨by rfl, ?_⟩) (by assumption) ?_
      rotate_left
      · (intro w hSw; (try dsimp only at hSw); go_simp; try with_reducible rfl)
      try simp only [Act.put, List.getElem_toArray, List.getElem_cons_zero, List.getElem_cons_succ, List.setIfInBounds_toArray, List.set_cons_zero, List.set_cons_succ]
      refine wpAnyK_step (i := 11) rfl (by kernel_rfl) (fun K hK => ?_)
      go_simp
      with_reducible refine (below7 a1 n1 cap1 z1 p1 i1 HG.out.1 a2 n2 cap2 z2 p2 i2 HG.out.2 a9 n9 cap9 z9 p9 i9 H9.out.2.1 L hL2 _ Q0.out.1.f.row Q0.out.1.g.row Q0.out.1.h.row).mono ?_
      rintro e y1 ⟨ok, rfl, hb, hbel⟩
      have HBL := Lib.hid hbel
      have Q1 := Lib.hid (And.intro (Q0.out.1.call hb) (Q0.out.2.trans (hb.mono Q0.out.2.size)))
      clear hb hbel
      refine hK.out _ _ (KS.out _ Q1.out.1) (fun hHeld1 => ?_)
      clear hK K hHeld0
      try simp only [Act.put, List.getElem_toArray, List.getElem_cons_zero, List.getElem_cons_succ, List.setIfInBounds_toArray, List.set_cons_zero, List.set_cons_succ]
      refine wpAnyK_take (i := 12) (v := ?_) rfl (by kernel_rfl) (fun _ _ _ h => h) (Or.inl ⟨by rfl, ?_⟩) (by assumption) ?_
      rotate_left
      · (intro w hSw; (try dsimp only at hSw); go_simp; try with_reducible rfl)
      try simp only [Act.put, List.getElem_toArray, List.getElem_cons_zero, List.getElem_cons_succ, List.setIfInBounds_toArray, List.set_cons_zero, List.set_cons_succ]
      have YR := Lib.hid (FX.out _ (BV.out.trans (Q1.out.2.mono BV.out.size))).2
      obtain ⟨r0, r1, r2, r3, r4, r5⟩ := YR.out
      refine wpAnyK_step (i := 13) rfl (by kernel_rfl) (fun K hK => ?_)
      go_simp
      refine hK.out _ _ (KS.out _ (LAY.out _ (.slice a9 n9 cap9) (.int .i64 p9) (.int .i64 i9) Q1.out.1)) (fun hHeld9 => ?_)
      clear hK K hHeld1
      try simp only [Act.put, List.getElem_toArray, List.getElem_cons_zero, List.getElem_cons_succ, List.setIfInBounds_toArray, List.set_cons_zero, List.set_cons_succ]
      refine wpAnyK_done (by kernel_rfl) ?_
      simp only [List.drop_succ_cons, List.drop_zero]
      clear hHeld9
      have HP := Lib.hid (guess_post (E := (eConv z1 p1 i1 z2 p2 i2)) (far := fr = 800 + 2 * L) (ok := ok) (b := w.heap.size + 2) (p := p9) (inc := i9) (HB2.out.trans (BV.out.mono HB2.out.size)) (by omega) Q1.out.2 (XV.out.row.under Q1.out.2) (fun x hx => by have := X9.out x hx; have := HSZ.out; exact ⟨by omega, by omega⟩) H9.out.1 (fun _ => H9.out.2.2) (fun _ hc => by
        by_cases g9 : Good z9 p9 i9
        · exact (HBL.out g9).2 (guess_below HG.out.1 HG.out.2 (H9.out.2.2.1 g9) hL2)
        · exact absurd hc (H9.out.2.2.2 g9)))
      go_wp2_with fail
      exact bodyPost_ret (v := .tuple #[curV a9 n9 cap9 p9 i9, .bool ok]) (by simp [results, Try.results118, go_sem, r0, r1, r2]) rfl HP.out

end Go.Proofs.Ythljhddnfflpjaa

namespace Go.Proofs.Ythljhddnfflpjaa
open Go.RowKit
set_option linter.unusedSimpArgs false
set_option linter.unusedVariables false

/-- What stands in Of: the normal forms, and the result's box. -/
structure OG (w : World) (A : Nat) (b1 : Option Addr) (m1 c1 : Nat) (y1 : List Int) (q1 : Nat) (j1 : Int) (b2 : Option Addr) (m2 c2 : Nat) (y2 : List Int) (q2 : Nat) (j2 : Int) (u : World) : Prop where
  xa : Bx u A b1 m1 c1 q1 j1 y1
  xb : Bx u (A + 1) b2 m2 c2 q2 j2 y2
  res : Cur3 u (w.heap.size + 2) (.slice none 0 0) (.int .i64 0) (.int .i64 0)
  below : Below w.heap.size w u
section
variable {w u v : World} {A : Nat} {b1 : Option Addr} {m1 c1 : Nat} {y1 : List Int} {q1 : Nat} {j1 : Int} {b2 : Option Addr} {m2 c2 : Nat} {y2 : List Int} {q2 : Nat} {j2 : Int}
theorem OG.call (h : OG w A b1 m1 c1 y1 q1 j1 b2 m2 c2 y2 q2 j2 u) (hb : Below u.heap.size u v) : OG w A b1 m1 c1 y1 q1 j1 b2 m2 c2 y2 q2 j2 v := ⟨h.xa.under hb, h.xb.under hb, h.res.below hb, h.below.trans (hb.mono h.below.size)⟩
/-- A store into a younger box. -/
theorem OG.lay (h : OG w A b1 m1 c1 y1 q1 j1 b2 m2 c2 y2 q2 j2 u) {B : Nat} (hA : w.heap.size + 3 ≤ A) (hB : A + 1 < B) (h1 : ∀ x, b1 = some x → 1 ≤ m1 → x.block ≠ B) (h2 : ∀ x, b2 = some x → 1 ≤ m2 → x.block ≠ B) (z0 z1 z2 : Value) : OG w A b1 m1 c1 y1 q1 j1 b2 m2 c2 y2 q2 j2 (((u.setCell ⟨B, 0, none⟩ z0).setCell ⟨B, 1, none⟩ z1).setCell ⟨B, 2, none⟩ z2) :=
  ⟨h.xa.lay3 (by omega) h1 _ _ _, h.xb.lay3 (by omega) h2 _ _ _, ((h.res.other (by omega) _ _).other (by omega) _ _).other (by omega) _ _, below_set3 h.below (by omega) _ _ _⟩
end

set_option maxRecDepth 100000 in
set_option maxHeartbeats 6400000 in
theorem rof7 (a1 : Option Addr) (n1 cap1 : Nat) (z1 : List Int) (p1 : Nat) (i1 : Int) (g1 : Good z1 p1 i1) (a2 : Option Addr) (n2 cap2 : Nat) (z2 : List Int) (p2 : Nat) (i2 : Int) (g2 : Good z2 p2 i2) (L : Nat) (hL : LcmN z1 p1 i1 z2 p2 i2 L) (hL2 : L ≤ 120) (w : World) (h1 : RowZ w a1 n1 cap1 z1) (h2 : RowZ w a2 n2 cap2 z2) :
    Calls Try.prog 38 #[curV a1 n1 cap1 p1 i1, curV a2 n2 cap2 p2 i2] w (GivesE (eConv z1 p1 i1 z2 p2 i2) w) := by
  have HG := Lib.hid (And.intro g1 g2)
  have HL := Lib.hid (And.intro hL hL2)
  obtain ⟨W, hW⟩ : ∃ W, ((w.alloc (.cells #[.slice a1 n1 cap1, .int .i64 p1, .int .i64 i1] 24)).alloc (.cells #[.slice a2 n2 cap2, .int .i64 p2, .int .i64 i2] 24)).alloc (.cells #[.slice none 0 0, .int .i64 0, .int .i64 0] 24) = W := ⟨_, rfl⟩
  obtain ⟨⟨hB, hWs⟩, k1, k2, kr⟩ := boxesB w a1 n1 cap1 p1 i1 a2 n2 cap2 p2 i2 hW
  have HB := Lib.hid hB
  have KR := Lib.hid kr
  have HR := Lib.hid (And.intro (h1.under hB) (h2.under hB))
  have HWS := Lib.hid hWs
  have hW1 := hW
  obtain ⟨m0, m1, m2, m3, m4, m5⟩ := k1
  obtain ⟨u0, u1, u2, u3, u4, u5⟩ := k2
  clear h1 h2 hB kr hW hWs g1 g2 hL hL2
  go_enter Try.func38, Try.ntmps38
  go_wp2_with fail
  try rw [hW1]
  clear hW1 m0 m1 m2 m3 m4 m5 u0 u1 u2 u3 u4 u5
  have hn120 : ¬ 120 < L := by have := HL.out.2; omega
  refine (rpair_any a1 n1 cap1 z1 p1 i1 HG.out.1 a2 n2 cap2 z2 p2 i2 HG.out.2 L HL.out.1 L 0 (if_neg hn120).symm (if_neg hn120).symm _ HR.out.1 HR.out.2).mono ?_
  rintro e v1 ⟨b1, m1, c1, y1, q1, j1, b2, m2, c2, y2, q2, j2, rfl, hb, hr1, hr2, hn1, hn2, hx1, hx2⟩
  obtain ⟨W2, hw⟩ : ∃ W2, (v1.alloc (.cells #[.slice b1 m1 c1, .int .i64 q1, .int .i64 j1] 24)).alloc (.cells #[.slice b2 m2 c2, .int .i64 q2, .int .i64 j2] 24) = W2 := ⟨_, rfl⟩
  have hz : Below v1.heap.size v1 W2 := by rw [← hw]; exact ((Below.refl _ _).alloc (Nat.le_refl _) _).alloc (by simp) _
  have hWz : Below W.heap.size W W2 := hb.trans (hz.mono hb.size)
  have KR2 := Lib.hid (KR.out.below hWz)
  have HB2 := Lib.hid (HB.out.trans (hWz.mono HB.out.size))
  have XA := Lib.hid (show Bx W2 v1.heap.size b1 m1 c1 q1 j1 y1 by rw [← hw]; exact (Bx.new hr1).under (box_below _ _))
  have XB := Lib.hid (show Bx W2 (v1.heap.size + 1) b2 m2 c2 q2 j2 y2 by
    rw [← hw]
    have := Bx.new (p := q2) (inc := j2) (hr2.under (box_below v1 (.cells #[.slice b1 m1 c1, .int .i64 q1, .int .i64 j1] 24)))
    simpa using this)
  have GY := Lib.hid (And.intro (hn1.good HG.out.1) (hn2.good HG.out.2))
  have HN := Lib.hid (And.intro hn1 hn2)
  have hLL : q1 / Nat.gcd q1 q2 * q2 = L := by
    obtain ⟨u1, r1, k1, u2, r2, k2, n1, n2, e⟩ := HL.out.1
    obtain ⟨_, rfl, _⟩ := n1.canon HG.out.1 HG.out.1 hn1 (fun _ => rfl)
    obtain ⟨_, rfl, _⟩ := n2.canon HG.out.2 HG.out.2 hn2 (fun _ => rfl)
    exact e
  have HLC := Lib.hid (lcm_of GY.out.1.p1 GY.out.2.p1 hLL)
  have hs1 : w.heap.size + 3 ≤ v1.heap.size := by have := hb.size; have := HWS.out; omega
  have HEQ := Lib.hid (And.intro (hn1.eform HG.out.1).2.1 (hn2.eform HG.out.2).2.1)
  have hw1 := hw
  obtain ⟨A, hA⟩ : ∃ A, v1.heap.size = A := ⟨_, rfl⟩
  rw [hA] at XA XB hs1
  obtain ⟨g0, g1, g2, g3, g4, g5⟩ := XA.out.box
  obtain ⟨d0, d1, d2, d3, d4, d5⟩ := XB.out.box
  have hL1 := HLC.out.one
  have hL120 := HL.out.2
  have q11 := GY.out.1.p1
  have q12 := GY.out.1.p2
  have q21 := GY.out.2.p1
  have q22 := GY.out.2.p2
  have bj1 := GY.out.1.i0
  have bj1' := GY.out.1.i1
  have bj2 := GY.out.2.i0
  have bj2' := GY.out.2.i1
  clear hb hr1 hr2 hn1 hn2 hx1 hx2 hw hz hWz hLL hn120
  have HM := Lib.hid HLC.out.mult
  have HEE := Lib.hid (show (eConv y1 q1 j1 y2 q2 j2) = eConv z1 p1 i1 z2 p2 i2 by unfold eConv; rw [funext HEQ.out.1, funext HEQ.out.2])
  have OG0 := Lib.hid (show OG w A b1 m1 c1 y1 q1 j1 b2 m2 c2 y2 q2 j2 W2 from ⟨XA.out, XB.out, KR2.out, HB2.out⟩)
  have hm1 : m1 ≤ 400 := by have := XA.out.row.len; have := GY.out.1.few; omega
  have hm2 : m2 ≤ 400 := by have := XB.out.row.len; have := GY.out.2.few; omega
  have B1 := Lib.hid (show (q1 ≤ m1 ∧ m1 ≤ 100000) ∧ (q2 ≤ m2 ∧ m2 ≤ 100000) by have := XA.out.row.len; have := XB.out.row.len; have := GY.out.1.p3; have := GY.out.2.p3; omega)
  have FR := Lib.hid (And.intro XA.out.row.far XB.out.row.far)
  obtain ⟨sa, hsa⟩ : ∃ v, m1 - q1 = v := ⟨_, rfl⟩
  obtain ⟨sb, hsb⟩ : ∃ v, m2 - q2 = v := ⟨_, rfl⟩
  have HSS := Lib.hid (show y1.length - q1 = sa ∧ y2.length - q2 = sb by rw [XA.out.row.len, XB.out.row.len]; exact ⟨hsa, hsb⟩)
  have HSI := Lib.hid (show ((m1 - q1 : Nat) : Int) = sa ∧ ((m2 - q2 : Nat) : Int) = sb by omega)
  obtain ⟨dd, hd2⟩ : ∃ d, 2 * L = d := ⟨_, rfl⟩
  obtain ⟨ss, hss⟩ : ∃ d, sa + sb = d := ⟨_, rfl⟩
  obtain ⟨fr, hfr⟩ : ∃ fr, ss + dd = fr := ⟨_, rfl⟩
  obtain ⟨f2, hf2⟩ : ∃ fr, 800 + dd = fr := ⟨_, rfl⟩
  have e1 : (sa : Int) + (sb : Int) = (ss : Int) := by omega
  have e2 : (2 : Int) * (L : Int) = (dd : Int) := by omega
  have e3 : (ss : Int) + (dd : Int) = (fr : Int) := by omega
  have e4 : (800 : Int) + (dd : Int) = (f2 : Int) := by omega
  have w1' : IntKind.i64.wrap (ss : Int) = (ss : Int) := IntWalk.i64_in _ ⟨by omega, by omega⟩
  have w2' : IntKind.i64.wrap (dd : Int) = (dd : Int) := IntWalk.i64_in _ ⟨by omega, by omega⟩
  have w3' : IntKind.i64.wrap (fr : Int) = (fr : Int) := IntWalk.i64_in _ ⟨by omega, by omega⟩
  have w4' : IntKind.i64.wrap (f2 : Int) = (f2 : Int) := IntWalk.i64_in _ ⟨by omega, by omega⟩
  have HF2 := Lib.hid (show f2 = 800 + 2 * L by omega)
  have HFR := Lib.hid (show (y1.length - q1 + (y2.length - q2) + L ≤ fr ∧ fr ≤ 1100) ∧ (y1.length - q1 + (y2.length - q2) + L ≤ f2 ∧ f2 ≤ 1100) by rw [HSS.out.1, HSS.out.2]; omega)
  clear hsa hsb hfr hd2 hss hf2
  go_upto_region 4 with fail
  try rw [hw1]
  try rw [hA]
  clear hw1
  clear g0 g1 g2 g3 g4 g5 d0 d1 d2 d3 d4 d5
  clear KR2 HB2 XA XB
  have KS := Lib.hid (show ∀ u, OG w A b1 m1 c1 y1 q1 j1 b2 m2 c2 y2 q2 j2 u → ((u.cell? ⟨A, 0, none⟩ = some (.slice b1 m1 c1) ∧ u.cell? ⟨A, 1, none⟩ = some (.int .i64 q1) ∧ u.cell? ⟨A, 2, none⟩ = some (.int .i64 j1)) ∧ (u.cell? ⟨A + 1, 0, none⟩ = some (.slice b2 m2 c2) ∧ u.cell? ⟨A + 1, 1, none⟩ = some (.int .i64 q2) ∧ u.cell? ⟨A + 1, 2, none⟩ = some (.int .i64 j2)) ∧ Hid (OG w A b1 m1 c1 y1 q1 j1 b2 m2 c2 y2 q2 j2 u)) from fun u h => ⟨⟨h.xa.box.c0, h.xa.box.c1, h.xa.box.c2⟩, ⟨h.xb.box.c0, h.xb.box.c1, h.xb.box.c2⟩, h⟩)
  have Q0 := Lib.hid (And.intro (OG0.out.call (Below.refl _ _).drew) (show W2.heap.size ≤ W2.drew.heap.size from Nat.le_refl _))
  have HA2 := Lib.hid (show A + 1 < W2.heap.size from OG0.out.xb.box.lt)
  go_cut [10, 11] (fun s10 s11 wx => ∃ (B : Nat) (a5 : Option Addr) (n5 cap5 : Nat) (zs5 : List Int) (p5 : Nat) (inc5 : Int) (ok : Bool), s10 = .pointer (some ⟨B, 0, none⟩) ∧ s11 = .bool ok ∧ A + 1 < B ∧ Hid (OG w A b1 m1 c1 y1 q1 j1 b2 m2 c2 y2 q2 j2 wx) ∧ Hid (Bx wx B a5 n5 cap5 p5 inc5 zs5) ∧ Hid (∀ x, a5 = some x → w.heap.size + 3 ≤ x.block) ∧ Hid (In64 p5 ∧ In64 inc5) ∧ Hid (ok = true → (Good zs5 p5 inc5 → EForm zs5 p5 inc5 (eConv y1 q1 j1 y2 q2 j2)) ∧ (¬ Good zs5 p5 inc5 → ¬ ECan (eConv y1 q1 j1 y2 q2 j2))) ∧ Hid (W2.heap.size ≤ B ∧ ∀ x, a5 = some x → 1 ≤ n5 → x.block ≠ B))
  case first =>
    refine wp_region_keeps (fun u => (u.cell? ⟨A, 0, none⟩ = some (.slice b1 m1 c1) ∧ u.cell? ⟨A, 1, none⟩ = some (.int .i64 q1) ∧ u.cell? ⟨A, 2, none⟩ = some (.int .i64 j1)) ∧ (u.cell? ⟨A + 1, 0, none⟩ = some (.slice b2 m2 c2) ∧ u.cell? ⟨A + 1, 1, none⟩ = some (.int .i64 q2) ∧ u.cell? ⟨A + 1, 2, none⟩ = some (.int .i64 j2)) ∧ Hid (OG w A b1 m1 c1 y1 q1 j1 b2 m2 c2 y2 q2 j2 u)) 17 1 (by kernel_rfl) (by kernel_rfl) (KS.out _ Q0.out.1) (fun hHeld0 => ?_)
    refine wpAnyK_take (i := 0) (v := ?_) rfl (by kernel_rfl) (fun _ _ _ h => h) (Or.inl ⟨by rfl, ?_⟩) (by assumption) ?_
    rotate_left
    · (intro w hSw; (try dsimp only at hSw); go_simp; try with_reducible rfl)
    try simp only [Act.put, List.getElem_toArray, List.getElem_cons_zero, List.getElem_cons_succ, List.setIfInBounds_toArray, List.set_cons_zero, List.set_cons_succ]
    refine wpAnyK_take (i := 1) (v := ?_) rfl (by kernel_rfl) (fun _ _ _ h => h) (Or.inl ⟨by rfl, ?_⟩) (by assumption) ?_
    rotate_left
    · (intro w hSw; (try dsimp only at hSw); go_simp; try with_reducible rfl)
    try simp only [Act.put, List.getElem_toArray, List.getElem_cons_zero, List.getElem_cons_succ, List.setIfInBounds_toArray, List.set_cons_zero, List.set_cons_succ]
    refine wpAnyK_take (i := 2) (v := ?_) rfl (by kernel_rfl) (fun _ _ _ h => h) (Or.inl ⟨by rfl, ?_⟩) (by assumption) ?_
    rotate_left
    · (intro w hSw; (try dsimp only at hSw); go_simp; try with_reducible rfl)
    try simp only [Act.put, List.getElem_toArray, List.getElem_cons_zero, List.getElem_cons_succ, List.setIfInBounds_toArray, List.set_cons_zero, List.set_cons_succ]
    refine wpAnyK_take (i := 3) (v := ?_) rfl (by kernel_rfl) (fun _ _ _ h => h) (Or.inl ⟨by rfl, ?_⟩) (by assumption) ?_
    rotate_left
    · (intro w hSw; (try dsimp only at hSw); go_simp; try with_reducible rfl)
    try simp only [Act.put, List.getElem_toArray, List.getElem_cons_zero, List.getElem_cons_succ, List.setIfInBounds_toArray, List.set_cons_zero, List.set_cons_succ]
    refine wpAnyK_take (i := 5) (v := ?_) rfl (by kernel_rfl) (fun _ _ _ h => h) (Or.inl ⟨by rfl, ?_⟩) (by assumption) ?_
    rotate_left
    · (intro w hSw; (try dsimp only at hSw); go_simp; try with_reducible rfl)
    try simp only [Act.put, List.getElem_toArray, List.getElem_cons_zero, List.getElem_cons_succ, List.setIfInBounds_toArray, List.set_cons_zero, List.set_cons_succ]
    refine wpAnyK_take (i := 8) (v := ?_) rfl (by kernel_rfl) (fun _ _ _ h => h) (Or.inl ⟨by rfl, ?_⟩) (by assumption) ?_
    rotate_left
    · (intro w hSw; (try dsimp only at hSw); go_simp; try with_reducible rfl)
    try simp only [Act.put, List.getElem_toArray, List.getElem_cons_zero, List.getElem_cons_succ, List.setIfInBounds_toArray, List.set_cons_zero, List.set_cons_succ]
    refine wpAnyK_take (i := 9) (v := ?_) rfl (by kernel_rfl) (fun _ _ _ h => h) (Or.inl ⟨by rfl, ?_⟩) (by assumption) ?_
    rotate_left
    · (intro w hSw; (try dsimp only at hSw); go_simp; try with_reducible rfl)
    try simp only [Act.put, List.getElem_toArray, List.getElem_cons_zero, List.getElem_cons_succ, List.setIfInBounds_toArray, List.set_cons_zero, List.set_cons_succ]
    refine wpAnyK_two (i := 4) (j := 15) rfl rfl (by kernel_rfl) (fun K hK => ?_) (fun K hK => ?_)
    · go_simp
      with_reducible refine (start7 b1 m1 c1 q1 j1 B1.out.1.1 B1.out.1.2 sa HSI.out.1 _).mono ?_
      rintro e x1 ⟨rfl, hb⟩
      have T1 := Lib.hid (And.intro (Q0.out.1.call hb) (show W2.heap.size ≤ x1.heap.size from Nat.le_trans Q0.out.2 hb.size))
      refine hK.out _ _ (KS.out _ T1.out.1) (fun hHeld_1 => ?_)
      clear hK K hHeld0 hb
      try simp only [Act.put, List.getElem_toArray, List.getElem_cons_zero, List.getElem_cons_succ, List.setIfInBounds_toArray, List.set_cons_zero, List.set_cons_succ]
      refine wpAnyK_two (i := 6) (j := 15) rfl rfl (by kernel_rfl) (fun K hK => ?_) (fun K hK => ?_)
      · go_simp
        with_reducible refine (start7 b2 m2 c2 q2 j2 B1.out.2.1 B1.out.2.2 sb HSI.out.2 _).mono ?_
        rintro e x2 ⟨rfl, hb⟩
        have T2 := Lib.hid (And.intro (T1.out.1.call hb) (show W2.heap.size ≤ x2.heap.size from Nat.le_trans T1.out.2 hb.size))
        refine hK.out _ _ (KS.out _ T2.out.1) (fun hHeld_2 => ?_)
        clear hK K hHeld_1 hb
        try simp only [Act.put, List.getElem_toArray, List.getElem_cons_zero, List.getElem_cons_succ, List.setIfInBounds_toArray, List.set_cons_zero, List.set_cons_succ]
        refine wpAnyK_take (i := 7) (v := ?_) rfl (by kernel_rfl) (fun _ _ _ h => h) (Or.inl ⟨by rfl, ?_⟩) (by assumption) ?_
        rotate_left
        · (intro w hSw; (try dsimp only at hSw); go_simp; try with_reducible rfl)
        try simp only [Act.put, List.getElem_toArray, List.getElem_cons_zero, List.getElem_cons_succ, List.setIfInBounds_toArray, List.set_cons_zero, List.set_cons_succ]
        refine wpAnyK_take (i := 10) (v := ?_) rfl (by kernel_rfl) (fun _ _ _ h => h) (Or.inl ⟨by rfl, ?_⟩) (by assumption) ?_
        rotate_left
        · (intro w hSw; (try dsimp only at hSw); go_simp; try with_reducible rfl)
        try simp only [Act.put, List.getElem_toArray, List.getElem_cons_zero, List.getElem_cons_succ, List.setIfInBounds_toArray, List.set_cons_zero, List.set_cons_succ]
        refine wpAnyK_two (i := 11) (j := 15) rfl rfl (by kernel_rfl) (fun K hK => ?_) (fun K hK => ?_)
        · go_simp
          with_reducible refine (guess7 b1 m1 c1 y1 q1 j1 GY.out.1 b2 m2 c2 y2 q2 j2 GY.out.2 L HM.out hL120 fr HFR.out.1.1 HFR.out.1.2 _ T2.out.1.xa.row T2.out.1.xb.row).mono ?_
          rintro e x3 ⟨a5, n5, cap5, zs5, p5, inc5, ok5, rfl, hb, hr, h64, hs, _, hx⟩
          have RX := Lib.hid hr
          have I8 := Lib.hid h64
          have K8 := Lib.hid hs
          have XX := Lib.hid (show ∀ x, a5 = some x → W2.heap.size ≤ x.block ∧ x2.heap.size ≤ x.block from fun x e => by have := hx x e; have := T2.out.2; omega)
          clear hr h64 hs hx
          have T3 := Lib.hid (And.intro (T2.out.1.call hb) (show W2.heap.size ≤ x3.heap.size from Nat.le_trans T2.out.2 hb.size))
          refine hK.out _ _ (KS.out _ T3.out.1) (fun hHeld_3 => ?_)
          clear hK K hHeld_2 hb
          try simp only [Act.put, List.getElem_toArray, List.getElem_cons_zero, List.getElem_cons_succ, List.setIfInBounds_toArray, List.set_cons_zero, List.set_cons_succ]
          refine wpAnyK_take (i := 12) (v := ?_) rfl (by kernel_rfl) (fun _ _ _ h => h) (Or.inl ⟨by rfl, ?_⟩) (by assumption) ?_
          rotate_left
          · (intro w hSw; (try dsimp only at hSw); go_simp; try with_reducible rfl)
          try simp only [Act.put, List.getElem_toArray, List.getElem_cons_zero, List.getElem_cons_succ, List.setIfInBounds_toArray, List.set_cons_zero, List.set_cons_succ]
          refine wpAnyK_take (i := 13) (v := ?_) rfl (by kernel_rfl) (fun _ _ _ h => h) (Or.inl ⟨by rfl, ?_⟩) (by assumption) ?_
          rotate_left
          · (intro w hSw; (try dsimp only at hSw); go_simp; try with_reducible rfl)
          try simp only [Act.put, List.getElem_toArray, List.getElem_cons_zero, List.getElem_cons_succ, List.setIfInBounds_toArray, List.set_cons_zero, List.set_cons_succ]
          refine wpAnyK_take (i := 14) (v := ?_) rfl (by kernel_rfl) (fun _ _ _ h => h) (Or.inl ⟨by rfl, ?_⟩) (by assumption) ?_
          rotate_left
          · (intro w hSw; (try dsimp only at hSw); go_simp; try with_reducible rfl)
          try simp only [Act.put, List.getElem_toArray, List.getElem_cons_zero, List.getElem_cons_succ, List.setIfInBounds_toArray, List.set_cons_zero, List.set_cons_succ]
          refine wpAnyK_step (i := 15) rfl (by kernel_rfl) (fun K hK => ?_)
          go_simp
          obtain ⟨x4, hu4⟩ : ∃ W', x3.alloc (.cells #[.slice none 0 0, .int .i64 0, .int .i64 0] 24) = W' := ⟨_, rfl⟩
          have hv4 := hu4
          have hb4 : Below x3.heap.size x3 x4 := by rw [← hu4]; exact below_box _
          have N4 := Lib.hid (show Cur3 x4 x3.heap.size (.slice none 0 0) (.int .i64 0) (.int .i64 0) ∧ W2.heap.size ≤ x3.heap.size from ⟨by rw [← hu4]; exact Cur3.new x3 _ _ _ _, T3.out.2⟩)
          have T4 := Lib.hid (And.intro (T3.out.1.call hb4) (show W2.heap.size ≤ x4.heap.size from Nat.le_trans T3.out.2 hb4.size))
          have RXb := Lib.hid (RX.out.under hb4)
          have XXb := Lib.hid (show ∀ x, a5 = some x → 1 ≤ n5 → x.block < x3.heap.size from RX.out.far)
          rw [hv4]
          clear hu4 hv4
          refine hK.out _ _ (KS.out _ T4.out.1) (fun hHeld_4 => ?_)
          clear hK K hHeld_3 hb4
          try simp only [Act.put, List.getElem_toArray, List.getElem_cons_zero, List.getElem_cons_succ, List.setIfInBounds_toArray, List.set_cons_zero, List.set_cons_succ]
          have hN := N4.out
          have hT := T4.out
          have hQ : ∀ x, a5 = some x → 1 ≤ n5 → x.block ≠ x3.heap.size := fun x e q => by have := XXb.out x e q; omega
          have HX8 := Lib.hid (show Bx (((x4.setCell ⟨x3.heap.size, 0, none⟩ (.slice a5 n5 cap5)).setCell ⟨x3.heap.size, 1, none⟩ (.int .i64 p5)).setCell ⟨x3.heap.size, 2, none⟩ (.int .i64 inc5)) x3.heap.size a5 n5 cap5 p5 inc5 zs5 from ⟨hN.1.set _ _ _, ((RXb.out.store hQ _ _).store hQ _ _).store hQ _ _⟩)
          have HA8 := HA2.out
          have HP8 := Lib.hid (show OG w A b1 m1 c1 y1 q1 j1 b2 m2 c2 y2 q2 j2 (((x4.setCell ⟨x3.heap.size, 0, none⟩ (.slice a5 n5 cap5)).setCell ⟨x3.heap.size, 1, none⟩ (.int .i64 p5)).setCell ⟨x3.heap.size, 2, none⟩ (.int .i64 inc5)) from hT.1.lay hs1 (by omega) (fun x e q => by have := FR.out.1 x e q; omega) (fun x e q => by have := FR.out.2 x e q; omega) _ _ _)
          have HQ8 := Lib.hid (show W2.heap.size ≤ x3.heap.size ∧ ∀ x, a5 = some x → 1 ≤ n5 → x.block ≠ x3.heap.size from ⟨by omega, hQ⟩)
          have F8 := Lib.hid (show ∀ x, a5 = some x → w.heap.size + 3 ≤ x.block from fun x e => by have := XX.out x e; omega)
          have hAB8 : A + 1 < x3.heap.size := by omega
          obtain ⟨n0, n1, n2, n3, n4, n5'⟩ := hN.1
          clear hN hT hQ HA8
          refine wpAnyK_step (i := 16) rfl (by kernel_rfl) (fun K hK => ?_)
          go_simp
          refine hK.out _ _ (KS.out _ HP8.out) (fun hHeld9 => ?_)
          clear hK K hHeld_4
          try simp only [Act.put, List.getElem_toArray, List.getElem_cons_zero, List.getElem_cons_succ, List.setIfInBounds_toArray, List.set_cons_zero, List.set_cons_succ]
          refine wpAnyK_done (by kernel_rfl) ?_
          simp only [List.drop_succ_cons, List.drop_zero]
          clear hHeld9
          go_wp2_with fail
          go_meet
          exact ⟨x3.heap.size, a5, n5, cap5, zs5, p5, inc5, ok5, rfl, rfl, hAB8, HP8, HX8, F8, I8, K8, HQ8⟩
        · go_simp
          obtain ⟨x5, hu5⟩ : ∃ W', x2.alloc (.cells #[.slice none 0 0, .int .i64 0, .int .i64 0] 24) = W' := ⟨_, rfl⟩
          have hv5 := hu5
          have hb5 : Below x2.heap.size x2 x5 := by rw [← hu5]; exact below_box _
          have N5 := Lib.hid (show Cur3 x5 x2.heap.size (.slice none 0 0) (.int .i64 0) (.int .i64 0) ∧ W2.heap.size ≤ x2.heap.size from ⟨by rw [← hu5]; exact Cur3.new x2 _ _ _ _, T2.out.2⟩)
          have T5 := Lib.hid (And.intro (T2.out.1.call hb5) (show W2.heap.size ≤ x5.heap.size from Nat.le_trans T2.out.2 hb5.size))
          rw [hv5]
          clear hu5 hv5
          refine hK.out _ _ (KS.out _ T5.out.1) (fun hHeld_5 => ?_)
          clear hK K hHeld_2 hb5
          try simp only [Act.put, List.getElem_toArray, List.getElem_cons_zero, List.getElem_cons_succ, List.setIfInBounds_toArray, List.set_cons_zero, List.set_cons_succ]
          refine wpAnyK_step (i := 11) rfl (by kernel_rfl) (fun K hK => ?_)
          go_simp
          with_reducible refine (guess7 b1 m1 c1 y1 q1 j1 GY.out.1 b2 m2 c2 y2 q2 j2 GY.out.2 L HM.out hL120 fr HFR.out.1.1 HFR.out.1.2 _ T5.out.1.xa.row T5.out.1.xb.row).mono ?_
          rintro e x6 ⟨a5, n5, cap5, zs5, p5, inc5, ok5, rfl, hb, hr, h64, hs, _, hx⟩
          have RX := Lib.hid hr
          have I8 := Lib.hid h64
          have K8 := Lib.hid hs
          have XX := Lib.hid (show ∀ x, a5 = some x → W2.heap.size ≤ x.block ∧ x5.heap.size ≤ x.block from fun x e => by have := hx x e; have := T5.out.2; omega)
          clear hr h64 hs hx
          have T6 := Lib.hid (And.intro (T5.out.1.call hb) (show W2.heap.size ≤ x6.heap.size from Nat.le_trans T5.out.2 hb.size))
          have N5_6 := Lib.hid (And.intro (N5.out.1.below hb) N5.out.2)
          have LB6 := Lib.hid (show x2.heap.size < x5.heap.size from N5.out.1.lt)
          refine hK.out _ _ (KS.out _ T6.out.1) (fun hHeld_6 => ?_)
          clear hK K hHeld_5 hb
          try simp only [Act.put, List.getElem_toArray, List.getElem_cons_zero, List.getElem_cons_succ, List.setIfInBounds_toArray, List.set_cons_zero, List.set_cons_succ]
          refine wpAnyK_take (i := 12) (v := ?_) rfl (by kernel_rfl) (fun _ _ _ h => h) (Or.inl ⟨by rfl, ?_⟩) (by assumption) ?_
          rotate_left
          · (intro w hSw; (try dsimp only at hSw); go_simp; try with_reducible rfl)
          try simp only [Act.put, List.getElem_toArray, List.getElem_cons_zero, List.getElem_cons_succ, List.setIfInBounds_toArray, List.set_cons_zero, List.set_cons_succ]
          refine wpAnyK_take (i := 13) (v := ?_) rfl (by kernel_rfl) (fun _ _ _ h => h) (Or.inl ⟨by rfl, ?_⟩) (by assumption) ?_
          rotate_left
          · (intro w hSw; (try dsimp only at hSw); go_simp; try with_reducible rfl)
          try simp only [Act.put, List.getElem_toArray, List.getElem_cons_zero, List.getElem_cons_succ, List.setIfInBounds_toArray, List.set_cons_zero, List.set_cons_succ]
          refine wpAnyK_take (i := 14) (v := ?_) rfl (by kernel_rfl) (fun _ _ _ h => h) (Or.inl ⟨by rfl, ?_⟩) (by assumption) ?_
          rotate_left
          · (intro w hSw; (try dsimp only at hSw); go_simp; try with_reducible rfl)
          try simp only [Act.put, List.getElem_toArray, List.getElem_cons_zero, List.getElem_cons_succ, List.setIfInBounds_toArray, List.set_cons_zero, List.set_cons_succ]
          have hN := N5_6.out
          have hT := T6.out
          have hQ : ∀ x, a5 = some x → 1 ≤ n5 → x.block ≠ x2.heap.size := fun x e _ => by have := (XX.out x e).2; have := LB6.out; omega
          have HX8 := Lib.hid (show Bx (((x6.setCell ⟨x2.heap.size, 0, none⟩ (.slice a5 n5 cap5)).setCell ⟨x2.heap.size, 1, none⟩ (.int .i64 p5)).setCell ⟨x2.heap.size, 2, none⟩ (.int .i64 inc5)) x2.heap.size a5 n5 cap5 p5 inc5 zs5 from ⟨hN.1.set _ _ _, ((RX.out.store hQ _ _).store hQ _ _).store hQ _ _⟩)
          have HA8 := HA2.out
          have HP8 := Lib.hid (show OG w A b1 m1 c1 y1 q1 j1 b2 m2 c2 y2 q2 j2 (((x6.setCell ⟨x2.heap.size, 0, none⟩ (.slice a5 n5 cap5)).setCell ⟨x2.heap.size, 1, none⟩ (.int .i64 p5)).setCell ⟨x2.heap.size, 2, none⟩ (.int .i64 inc5)) from hT.1.lay hs1 (by omega) (fun x e q => by have := FR.out.1 x e q; omega) (fun x e q => by have := FR.out.2 x e q; omega) _ _ _)
          have HQ8 := Lib.hid (show W2.heap.size ≤ x2.heap.size ∧ ∀ x, a5 = some x → 1 ≤ n5 → x.block ≠ x2.heap.size from ⟨by omega, hQ⟩)
          have F8 := Lib.hid (show ∀ x, a5 = some x → w.heap.size + 3 ≤ x.block from fun x e => by have := XX.out x e; omega)
          have hAB8 : A + 1 < x2.heap.size := by omega
          obtain ⟨n0, n1, n2, n3, n4, n5'⟩ := hN.1
          clear hN hT hQ HA8
          refine wpAnyK_step (i := 16) rfl (by kernel_rfl) (fun K hK => ?_)
          go_simp
          refine hK.out _ _ (KS.out _ HP8.out) (fun hHeld9 => ?_)
          clear hK K hHeld_6
          try simp only [Act.put, List.getElem_toArray, List.getElem_cons_zero, List.getElem_cons_succ, List.setIfInBounds_toArray, List.set_cons_zero, List.set_cons_succ]
          refine wpAnyK_done (by kernel_rfl) ?_
          simp only [List.drop_succ_cons, List.drop_zero]
          clear hHeld9
          go_wp2_with fail
          go_meet
          exact ⟨x2.heap.size, a5, n5, cap5, zs5, p5, inc5, ok5, rfl, rfl, hAB8, HP8, HX8, F8, I8, K8, HQ8⟩
      · go_simp
        obtain ⟨x7, hu7⟩ : ∃ W', x1.alloc (.cells #[.slice none 0 0, .int .i64 0, .int .i64 0] 24) = W' := ⟨_, rfl⟩
        have hv7 := hu7
        have hb7 : Below x1.heap.size x1 x7 := by rw [← hu7]; exact below_box _
        have N7 := Lib.hid (show Cur3 x7 x1.heap.size (.slice none 0 0) (.int .i64 0) (.int .i64 0) ∧ W2.heap.size ≤ x1.heap.size from ⟨by rw [← hu7]; exact Cur3.new x1 _ _ _ _, T1.out.2⟩)
        have T7 := Lib.hid (And.intro (T1.out.1.call hb7) (show W2.heap.size ≤ x7.heap.size from Nat.le_trans T1.out.2 hb7.size))
        rw [hv7]
        clear hu7 hv7
        refine hK.out _ _ (KS.out _ T7.out.1) (fun hHeld_7 => ?_)
        clear hK K hHeld_1 hb7
        try simp only [Act.put, List.getElem_toArray, List.getElem_cons_zero, List.getElem_cons_succ, List.setIfInBounds_toArray, List.set_cons_zero, List.set_cons_succ]
        refine wpAnyK_step (i := 6) rfl (by kernel_rfl) (fun K hK => ?_)
        go_simp
        with_reducible refine (start7 b2 m2 c2 q2 j2 B1.out.2.1 B1.out.2.2 sb HSI.out.2 _).mono ?_
        rintro e x8 ⟨rfl, hb⟩
        have T8 := Lib.hid (And.intro (T7.out.1.call hb) (show W2.heap.size ≤ x8.heap.size from Nat.le_trans T7.out.2 hb.size))
        have N7_8 := Lib.hid (And.intro (N7.out.1.below hb) N7.out.2)
        refine hK.out _ _ (KS.out _ T8.out.1) (fun hHeld_8 => ?_)
        clear hK K hHeld_7 hb
        try simp only [Act.put, List.getElem_toArray, List.getElem_cons_zero, List.getElem_cons_succ, List.setIfInBounds_toArray, List.set_cons_zero, List.set_cons_succ]
        refine wpAnyK_take (i := 7) (v := ?_) rfl (by kernel_rfl) (fun _ _ _ h => h) (Or.inl ⟨by rfl, ?_⟩) (by assumption) ?_
        rotate_left
        · (intro w hSw; (try dsimp only at hSw); go_simp; try with_reducible rfl)
        try simp only [Act.put, List.getElem_toArray, List.getElem_cons_zero, List.getElem_cons_succ, List.setIfInBounds_toArray, List.set_cons_zero, List.set_cons_succ]
        refine wpAnyK_take (i := 10) (v := ?_) rfl (by kernel_rfl) (fun _ _ _ h => h) (Or.inl ⟨by rfl, ?_⟩) (by assumption) ?_
        rotate_left
        · (intro w hSw; (try dsimp only at hSw); go_simp; try with_reducible rfl)
        try simp only [Act.put, List.getElem_toArray, List.getElem_cons_zero, List.getElem_cons_succ, List.setIfInBounds_toArray, List.set_cons_zero, List.set_cons_succ]
        refine wpAnyK_step (i := 11) rfl (by kernel_rfl) (fun K hK => ?_)
        go_simp
        with_reducible refine (guess7 b1 m1 c1 y1 q1 j1 GY.out.1 b2 m2 c2 y2 q2 j2 GY.out.2 L HM.out hL120 fr HFR.out.1.1 HFR.out.1.2 _ T8.out.1.xa.row T8.out.1.xb.row).mono ?_
        rintro e x9 ⟨a5, n5, cap5, zs5, p5, inc5, ok5, rfl, hb, hr, h64, hs, _, hx⟩
        have RX := Lib.hid hr
        have I8 := Lib.hid h64
        have K8 := Lib.hid hs
        have XX := Lib.hid (show ∀ x, a5 = some x → W2.heap.size ≤ x.block ∧ x8.heap.size ≤ x.block from fun x e => by have := hx x e; have := T8.out.2; omega)
        clear hr h64 hs hx
        have T9 := Lib.hid (And.intro (T8.out.1.call hb) (show W2.heap.size ≤ x9.heap.size from Nat.le_trans T8.out.2 hb.size))
        have N7_8_9 := Lib.hid (And.intro (N7_8.out.1.below hb) N7_8.out.2)
        have LB9 := Lib.hid (show x1.heap.size < x8.heap.size from N7_8.out.1.lt)
        refine hK.out _ _ (KS.out _ T9.out.1) (fun hHeld_9 => ?_)
        clear hK K hHeld_8 hb
        try simp only [Act.put, List.getElem_toArray, List.getElem_cons_zero, List.getElem_cons_succ, List.setIfInBounds_toArray, List.set_cons_zero, List.set_cons_succ]
        refine wpAnyK_take (i := 12) (v := ?_) rfl (by kernel_rfl) (fun _ _ _ h => h) (Or.inl ⟨by rfl, ?_⟩) (by assumption) ?_
        rotate_left
        · (intro w hSw; (try dsimp only at hSw); go_simp; try with_reducible rfl)
        try simp only [Act.put, List.getElem_toArray, List.getElem_cons_zero, List.getElem_cons_succ, List.setIfInBounds_toArray, List.set_cons_zero, List.set_cons_succ]
        refine wpAnyK_take (i := 13) (v := ?_) rfl (by kernel_rfl) (fun _ _ _ h => h) (Or.inl ⟨by rfl, ?_⟩) (by assumption) ?_
        rotate_left
        · (intro w hSw; (try dsimp only at hSw); go_simp; try with_reducible rfl)
        try simp only [Act.put, List.getElem_toArray, List.getElem_cons_zero, List.getElem_cons_succ, List.setIfInBounds_toArray, List.set_cons_zero, List.set_cons_succ]
        refine wpAnyK_take (i := 14) (v := ?_) rfl (by kernel_rfl) (fun _ _ _ h => h) (Or.inl ⟨by rfl, ?_⟩) (by assumption) ?_
        rotate_left
        · (intro w hSw; (try dsimp only at hSw); go_simp; try with_reducible rfl)
        try simp only [Act.put, List.getElem_toArray, List.getElem_cons_zero, List.getElem_cons_succ, List.setIfInBounds_toArray, List.set_cons_zero, List.set_cons_succ]
        have hN := N7_8_9.out
        have hT := T9.out
        have hQ : ∀ x, a5 = some x → 1 ≤ n5 → x.block ≠ x1.heap.size := fun x e _ => by have := (XX.out x e).2; have := LB9.out; omega
        have HX8 := Lib.hid (show Bx (((x9.setCell ⟨x1.heap.size, 0, none⟩ (.slice a5 n5 cap5)).setCell ⟨x1.heap.size, 1, none⟩ (.int .i64 p5)).setCell ⟨x1.heap.size, 2, none⟩ (.int .i64 inc5)) x1.heap.size a5 n5 cap5 p5 inc5 zs5 from ⟨hN.1.set _ _ _, ((RX.out.store hQ _ _).store hQ _ _).store hQ _ _⟩)
        have HA8 := HA2.out
        have HP8 := Lib.hid (show OG w A b1 m1 c1 y1 q1 j1 b2 m2 c2 y2 q2 j2 (((x9.setCell ⟨x1.heap.size, 0, none⟩ (.slice a5 n5 cap5)).setCell ⟨x1.heap.size, 1, none⟩ (.int .i64 p5)).setCell ⟨x1.heap.size, 2, none⟩ (.int .i64 inc5)) from hT.1.lay hs1 (by omega) (fun x e q => by have := FR.out.1 x e q; omega) (fun x e q => by have := FR.out.2 x e q; omega) _ _ _)
        have HQ8 := Lib.hid (show W2.heap.size ≤ x1.heap.size ∧ ∀ x, a5 = some x → 1 ≤ n5 → x.block ≠ x1.heap.size from ⟨by omega, hQ⟩)
        have F8 := Lib.hid (show ∀ x, a5 = some x → w.heap.size + 3 ≤ x.block from fun x e => by have := XX.out x e; omega)
        have hAB8 : A + 1 < x1.heap.size := by omega
        obtain ⟨n0, n1, n2, n3, n4, n5'⟩ := hN.1
        clear hN hT hQ HA8
        refine wpAnyK_step (i := 16) rfl (by kernel_rfl) (fun K hK => ?_)
        go_simp
        refine hK.out _ _ (KS.out _ HP8.out) (fun hHeld9 => ?_)
        clear hK K hHeld_9
        try simp only [Act.put, List.getElem_toArray, List.getElem_cons_zero, List.getElem_cons_succ, List.setIfInBounds_toArray, List.set_cons_zero, List.set_cons_succ]
        refine wpAnyK_done (by kernel_rfl) ?_
        simp only [List.drop_succ_cons, List.drop_zero]
        clear hHeld9
        go_wp2_with fail
        go_meet
        exact ⟨x1.heap.size, a5, n5, cap5, zs5, p5, inc5, ok5, rfl, rfl, hAB8, HP8, HX8, F8, I8, K8, HQ8⟩
    · go_simp
      obtain ⟨x10, hv10⟩ : ∃ W', (W2.alloc (.cells #[.slice none 0 0, .int .i64 0, .int .i64 0] 24)).drew = W' := ⟨_, rfl⟩
      have hu10 : W2.drew.alloc (.cells #[.slice none 0 0, .int .i64 0, .int .i64 0] 24) = x10 := hv10
      have hb10 : Below W2.drew.heap.size W2.drew x10 := by rw [← hu10]; exact below_box _
      have N10 := Lib.hid (show Cur3 x10 W2.heap.size (.slice none 0 0) (.int .i64 0) (.int .i64 0) ∧ W2.heap.size ≤ W2.heap.size from ⟨by rw [← hu10]; exact Cur3.new W2.drew _ _ _ _, Q0.out.2⟩)
      have T10 := Lib.hid (And.intro (Q0.out.1.call hb10) (show W2.heap.size ≤ x10.heap.size from Nat.le_trans Q0.out.2 hb10.size))
      rw [hv10]
      clear hu10 hv10
      refine hK.out _ _ (KS.out _ T10.out.1) (fun hHeld_10 => ?_)
      clear hK K hHeld0 hb10
      try simp only [Act.put, List.getElem_toArray, List.getElem_cons_zero, List.getElem_cons_succ, List.setIfInBounds_toArray, List.set_cons_zero, List.set_cons_succ]
      refine wpAnyK_step (i := 4) rfl (by kernel_rfl) (fun K hK => ?_)
      go_simp
      with_reducible refine (start7 b1 m1 c1 q1 j1 B1.out.1.1 B1.out.1.2 sa HSI.out.1 _).mono ?_
      rintro e x11 ⟨rfl, hb⟩
      have T11 := Lib.hid (And.intro (T10.out.1.call hb) (show W2.heap.size ≤ x11.heap.size from Nat.le_trans T10.out.2 hb.size))
      have N10_11 := Lib.hid (And.intro (N10.out.1.below hb) N10.out.2)
      refine hK.out _ _ (KS.out _ T11.out.1) (fun hHeld_11 => ?_)
      clear hK K hHeld_10 hb
      try simp only [Act.put, List.getElem_toArray, List.getElem_cons_zero, List.getElem_cons_succ, List.setIfInBounds_toArray, List.set_cons_zero, List.set_cons_succ]
      refine wpAnyK_step (i := 6) rfl (by kernel_rfl) (fun K hK => ?_)
      go_simp
      with_reducible refine (start7 b2 m2 c2 q2 j2 B1.out.2.1 B1.out.2.2 sb HSI.out.2 _).mono ?_
      rintro e x12 ⟨rfl, hb⟩
      have T12 := Lib.hid (And.intro (T11.out.1.call hb) (show W2.heap.size ≤ x12.heap.size from Nat.le_trans T11.out.2 hb.size))
      have N10_11_12 := Lib.hid (And.intro (N10_11.out.1.below hb) N10_11.out.2)
      refine hK.out _ _ (KS.out _ T12.out.1) (fun hHeld_12 => ?_)
      clear hK K hHeld_11 hb
      try simp only [Act.put, List.getElem_toArray, List.getElem_cons_zero, List.getElem_cons_succ, List.setIfInBounds_toArray, List.set_cons_zero, List.set_cons_succ]
      refine wpAnyK_take (i := 7) (v := ?_) rfl (by kernel_rfl) (fun _ _ _ h => h) (Or.inl ⟨by rfl, ?_⟩) (by assumption) ?_
      rotate_left
      · (intro w hSw; (try dsimp only at hSw); go_simp; try with_reducible rfl)
      try simp only [Act.put, List.getElem_toArray, List.getElem_cons_zero, List.getElem_cons_succ, List.setIfInBounds_toArray, List.set_cons_zero, List.set_cons_succ]
      refine wpAnyK_take (i := 10) (v := ?_) rfl (by kernel_rfl) (fun _ _ _ h => h) (Or.inl ⟨by rfl, ?_⟩) (by assumption) ?_
      rotate_left
      · (intro w hSw; (try dsimp only at hSw); go_simp; try with_reducible rfl)
      try simp only [Act.put, List.getElem_toArray, List.getElem_cons_zero, List.getElem_cons_succ, List.setIfInBounds_toArray, List.set_cons_zero, List.set_cons_succ]
      refine wpAnyK_step (i := 11) rfl (by kernel_rfl) (fun K hK => ?_)
      go_simp
      with_reducible refine (guess7 b1 m1 c1 y1 q1 j1 GY.out.1 b2 m2 c2 y2 q2 j2 GY.out.2 L HM.out hL120 fr HFR.out.1.1 HFR.out.1.2 _ T12.out.1.xa.row T12.out.1.xb.row).mono ?_
      rintro e x13 ⟨a5, n5, cap5, zs5, p5, inc5, ok5, rfl, hb, hr, h64, hs, _, hx⟩
      have RX := Lib.hid hr
      have I8 := Lib.hid h64
      have K8 := Lib.hid hs
      have XX := Lib.hid (show ∀ x, a5 = some x → W2.heap.size ≤ x.block ∧ x12.heap.size ≤ x.block from fun x e => by have := hx x e; have := T12.out.2; omega)
      clear hr h64 hs hx
      have T13 := Lib.hid (And.intro (T12.out.1.call hb) (show W2.heap.size ≤ x13.heap.size from Nat.le_trans T12.out.2 hb.size))
      have N10_11_12_13 := Lib.hid (And.intro (N10_11_12.out.1.below hb) N10_11_12.out.2)
      have LB13 := Lib.hid (show W2.heap.size < x12.heap.size from N10_11_12.out.1.lt)
      refine hK.out _ _ (KS.out _ T13.out.1) (fun hHeld_13 => ?_)
      clear hK K hHeld_12 hb
      try simp only [Act.put, List.getElem_toArray, List.getElem_cons_zero, List.getElem_cons_succ, List.setIfInBounds_toArray, List.set_cons_zero, List.set_cons_succ]
      refine wpAnyK_take (i := 12) (v := ?_) rfl (by kernel_rfl) (fun _ _ _ h => h) (Or.inl ⟨by rfl, ?_⟩) (by assumption) ?_
      rotate_left
      · (intro w hSw; (try dsimp only at hSw); go_simp; try with_reducible rfl)
      try simp only [Act.put, List.getElem_toArray, List.getElem_cons_zero, List.getElem_cons_succ, List.setIfInBounds_toArray, List.set_cons_zero, List.set_cons_succ]
      refine wpAnyK_take (i := 13) (v := ?_) rfl (by kernel_rfl) (fun _ _ _ h => h) (Or.inl ⟨by rfl, ?_⟩) (by assumption) ?_
      rotate_left
      · (intro w hSw; (try dsimp only at hSw); go_simp; try with_reducible rfl)
      try simp only [Act.put, List.getElem_toArray, List.getElem_cons_zero, List.getElem_cons_succ, List.setIfInBounds_toArray, List.set_cons_zero, List.set_cons_succ]
      refine wpAnyK_take (i := 14) (v := ?_) rfl (by kernel_rfl) (fun _ _ _ h => h) (Or.inl ⟨by rfl, ?_⟩) (by assumption) ?_
      rotate_left
      · (intro w hSw; (try dsimp only at hSw); go_simp; try with_reducible rfl)
      try simp only [Act.put, List.getElem_toArray, List.getElem_cons_zero, List.getElem_cons_succ, List.setIfInBounds_toArray, List.set_cons_zero, List.set_cons_succ]
      have hN := N10_11_12_13.out
      have hT := T13.out
      have hQ : ∀ x, a5 = some x → 1 ≤ n5 → x.block ≠ W2.heap.size := fun x e _ => by have := (XX.out x e).2; have := LB13.out; omega
      have HX8 := Lib.hid (show Bx (((x13.setCell ⟨W2.heap.size, 0, none⟩ (.slice a5 n5 cap5)).setCell ⟨W2.heap.size, 1, none⟩ (.int .i64 p5)).setCell ⟨W2.heap.size, 2, none⟩ (.int .i64 inc5)) W2.heap.size a5 n5 cap5 p5 inc5 zs5 from ⟨hN.1.set _ _ _, ((RX.out.store hQ _ _).store hQ _ _).store hQ _ _⟩)
      have HA8 := HA2.out
      have HP8 := Lib.hid (show OG w A b1 m1 c1 y1 q1 j1 b2 m2 c2 y2 q2 j2 (((x13.setCell ⟨W2.heap.size, 0, none⟩ (.slice a5 n5 cap5)).setCell ⟨W2.heap.size, 1, none⟩ (.int .i64 p5)).setCell ⟨W2.heap.size, 2, none⟩ (.int .i64 inc5)) from hT.1.lay hs1 (by omega) (fun x e q => by have := FR.out.1 x e q; omega) (fun x e q => by have := FR.out.2 x e q; omega) _ _ _)
      have HQ8 := Lib.hid (show W2.heap.size ≤ W2.heap.size ∧ ∀ x, a5 = some x → 1 ≤ n5 → x.block ≠ W2.heap.size from ⟨by omega, hQ⟩)
      have F8 := Lib.hid (show ∀ x, a5 = some x → w.heap.size + 3 ≤ x.block from fun x e => by have := XX.out x e; omega)
      have hAB8 : A + 1 < W2.heap.size := by omega
      obtain ⟨n0, n1, n2, n3, n4, n5'⟩ := hN.1
      clear hN hT hQ HA8
      refine wpAnyK_step (i := 16) rfl (by kernel_rfl) (fun K hK => ?_)
      go_simp
      refine hK.out _ _ (KS.out _ HP8.out) (fun hHeld9 => ?_)
      clear hK K hHeld_13
      try simp only [Act.put, List.getElem_toArray, List.getElem_cons_zero, List.getElem_cons_succ, List.setIfInBounds_toArray, List.set_cons_zero, List.set_cons_succ]
      refine wpAnyK_done (by kernel_rfl) ?_
      simp only [List.drop_succ_cons, List.drop_zero]
      clear hHeld9
      go_wp2_with fail
      go_meet
      exact ⟨W2.heap.size, a5, n5, cap5, zs5, p5, inc5, ok5, rfl, rfl, hAB8, HP8, HX8, F8, I8, K8, HQ8⟩
  case rest =>
  obtain ⟨B, a5, n5, cap5, zs5, p5, inc5, ok, rfl, rfl, hAB, G5, X5, F5, I5, K5, BB⟩ := hcut
  obtain ⟨w5, rfl⟩ : ∃ u : World, u = wc := ⟨_, rfl⟩
  clear Q0 OG0
  cases ok with
  | true =>
    obtain ⟨c0, c1', c2', c3', c4, c5⟩ := X5.out.box
    cases hv : okC zs5 p5 inc5 with
    | false =>
      have HV := Lib.hid hv
      clear hv
      go_wp2_with fail
      refine (rvalid_any a5 n5 cap5 zs5 p5 inc5 I5.out.1 I5.out.2 false HV.out _ X5.out.row).mono ?_
      rintro e w7 ⟨rfl, hb⟩
      have hno : ¬ ECan (eConv y1 q1 j1 y2 q2 j2) := (K5.out trivial).2 fun g => by have := (okC_iff zs5 p5 inc5).2 g; rw [HV.out] at this; cases this
      have HP := Lib.hid (GivesE.postNo (E := eConv z1 p1 i1 z2 p2 i2) (b := w.heap.size + 2) G5.out.below (by omega) hb (by rw [← HEE.out]; exact hno))
      obtain ⟨r0, r1, r2, r3, r4, r5⟩ := G5.out.res.below hb
      clear hb hno
      go_wp2_with fail
      exact bodyPost_ret (v := .tuple #[curV none 0 0 0 0, .int .i64 3]) (by simp [results, Try.results38, go_sem, r0, r1, r2]) rfl HP.out
    | true =>
      have HV := Lib.hid hv
      clear hv
      go_wp2_with fail
      refine (rvalid_any a5 n5 cap5 zs5 p5 inc5 I5.out.1 I5.out.2 true HV.out _ X5.out.row).mono ?_
      rintro e w7 ⟨rfl, hb⟩
      have hf := (K5.out trivial).1 ((okC_iff zs5 p5 inc5).1 HV.out)
      have G7 := Lib.hid (G5.out.call hb)
      have X7 := Lib.hid (X5.out.under hb)
      have HP := Lib.hid (GivesE.postOf (E := eConv z1 p1 i1 z2 p2 i2) (b := w.heap.size + 2) G7.out.below (by omega) X7.out.row (fun x e => by have := F5.out x e; omega) (by rw [← HEE.out]; exact hf))
      obtain ⟨r0, r1, r2, r3, r4, r5⟩ := G7.out.res
      clear c0 c1' c2' c3' c4 c5 hb hf
      obtain ⟨c0, c1', c2', c3', c4, c5⟩ := X7.out.box
      go_wp2_with fail
      exact bodyPost_ret (v := .tuple #[curV a5 n5 cap5 p5 inc5, .int .i64 0]) (by simp [results, Try.results38, go_sem, r0, r1, r2]) rfl HP.out
  | false =>
    obtain ⟨c0, c1', c2', c3', c4, c5⟩ := X5.out.box
    obtain ⟨g0, g1', g2', g3', g4, g5⟩ := G5.out.xa.box
    obtain ⟨d0, d1, d2, d3, d4, d5⟩ := G5.out.xb.box
    go_upto_region 6 with fail
    go_wp2_with fail
    clear c0 c1' c2' c3' c4 c5 g0 g1' g2' g3' g4 g5 d0 d1 d2 d3 d4 d5
    with_reducible refine (guess7 b1 m1 c1 y1 q1 j1 GY.out.1 b2 m2 c2 y2 q2 j2 GY.out.2 L HM.out hL120 f2 HFR.out.2.1 HFR.out.2.2 _ G5.out.xa.row G5.out.xb.row).mono ?_
    rintro e v6 ⟨a6, n6, cap6, zs6, p6, inc6, ok6, rfl, hb, hr, h64, hs, hc, hx⟩
    obtain ⟨w6, hw6⟩ : ∃ u, ((v6.setCell ⟨B, 0, none⟩ (.slice a6 n6 cap6)).setCell ⟨B, 1, none⟩ (.int .i64 p6)).setCell ⟨B, 2, none⟩ (.int .i64 inc6) = u := ⟨_, rfl⟩
    have hBw : B < w5.heap.size := X5.out.box.lt
    have hq6 : ∀ x, a6 = some x → x.block ≠ B := fun x e => by have := hx x e; omega
    have hFR := FR.out
    have G6 := Lib.hid (show OG w A b1 m1 c1 y1 q1 j1 b2 m2 c2 y2 q2 j2 w6 by rw [← hw6]; exact (G5.out.call hb).lay hs1 hAB (fun x e q => by have := hFR.1 x e q; have := BB.out.1; omega) (fun x e q => by have := hFR.2 x e q; have := BB.out.1; omega) _ _ _)
    have X6 := Lib.hid (show Bx w6 B a6 n6 cap6 p6 inc6 zs6 by rw [← hw6]; exact ⟨(X5.out.box.below hb).set _ _ _, ((hr.store (fun x e _ => hq6 x e) _ _).store (fun x e _ => hq6 x e) _ _).store (fun x e _ => hq6 x e) _ _⟩)
    have F6 := Lib.hid (show ∀ x, a6 = some x → w.heap.size + 3 ≤ x.block from fun x e => by have := hx x e; have := HA2.out; have := BB.out.1; omega)
    have I6 := Lib.hid h64
    have K6 := Lib.hid (And.intro hs (hc HF2.out))
    have X5b := Lib.hid (X5.out.box.below hb)
    have HW6 := Lib.hid hw6
    obtain ⟨c0, c1', c2', c3', c4, c5⟩ := X5b.out
    clear hb hr h64 hs hc hx hw6 hq6 hFR
    go_upto_region 7 with fail
    try rw [HW6.out]
    clear c0 c1' c2' c3' c4 c5
    obtain ⟨c0, c1', c2', c3', c4, c5⟩ := X6.out.box
    cases ok6 with
    | true =>
      cases hv : okC zs6 p6 inc6 with
      | false =>
        have HV := Lib.hid hv
        clear hv
        go_wp2_with fail
        refine (rvalid_any a6 n6 cap6 zs6 p6 inc6 I6.out.1 I6.out.2 false HV.out _ X6.out.row).mono ?_
        rintro e w7 ⟨rfl, hb⟩
        have hno : ¬ ECan (eConv y1 q1 j1 y2 q2 j2) := (K6.out.1 trivial).2 fun g => by have := (okC_iff zs6 p6 inc6).2 g; rw [HV.out] at this; cases this
        have HP := Lib.hid (GivesE.postNo (E := eConv z1 p1 i1 z2 p2 i2) (b := w.heap.size + 2) G6.out.below (by omega) hb (by rw [← HEE.out]; exact hno))
        obtain ⟨r0, r1, r2, r3, r4, r5⟩ := G6.out.res.below hb
        clear hb hno
        go_wp2_with fail
        exact bodyPost_ret (v := .tuple #[curV none 0 0 0 0, .int .i64 3]) (by simp [results, Try.results38, go_sem, r0, r1, r2]) rfl HP.out
      | true =>
        have HV := Lib.hid hv
        clear hv
        go_wp2_with fail
        refine (rvalid_any a6 n6 cap6 zs6 p6 inc6 I6.out.1 I6.out.2 true HV.out _ X6.out.row).mono ?_
        rintro e w7 ⟨rfl, hb⟩
        have hf := (K6.out.1 trivial).1 ((okC_iff zs6 p6 inc6).1 HV.out)
        have G7 := Lib.hid (G6.out.call hb)
        have X7 := Lib.hid (X6.out.under hb)
        have HP := Lib.hid (GivesE.postOf (E := eConv z1 p1 i1 z2 p2 i2) (b := w.heap.size + 2) G7.out.below (by omega) X7.out.row (fun x e => by have := F6.out x e; omega) (by rw [← HEE.out]; exact hf))
        obtain ⟨r0, r1, r2, r3, r4, r5⟩ := G7.out.res
        clear c0 c1' c2' c3' c4 c5 hb hf
        obtain ⟨c0, c1', c2', c3', c4, c5⟩ := X7.out.box
        go_wp2_with fail
        exact bodyPost_ret (v := .tuple #[curV a6 n6 cap6 p6 inc6, .int .i64 0]) (by simp [results, Try.results38, go_sem, r0, r1, r2]) rfl HP.out
    | false =>
      have hno : ¬ ECan (eConv y1 q1 j1 y2 q2 j2) := fun h => by have := K6.out.2 h; cases this
      have HP := Lib.hid (GivesE.postNo (E := eConv z1 p1 i1 z2 p2 i2) (b := w.heap.size + 2) G6.out.below (by omega) (Below.refl _ _) (by rw [← HEE.out]; exact hno))
      obtain ⟨r0, r1, r2, r3, r4, r5⟩ := G6.out.res
      clear hno
      go_wp2_with fail
      exact bodyPost_ret (v := .tuple #[curV none 0 0 0 0, .int .i64 3]) (by simp [results, Try.results38, go_sem, r0, r1, r2]) rfl HP.out

section
variable (a1 : Option Addr) (n1 cap1 : Nat) (z1 : List Int) (p1 : Nat) (i1 : Int) (g1 : Good z1 p1 i1) (a2 : Option Addr) (n2 cap2 : Nat) (z2 : List Int) (p2 : Nat) (i2 : Int) (g2 : Good z2 p2 i2) (h1 : Day (eC z1 p1 i1)) (h2 : Day (eC z2 p2 i2))
    (w : World) (r1 : RowZ w a1 n1 cap1 z1) (r2 : RowZ w a2 n2 cap2 z2)
include g1 g2 h1 h2 r1 r2
theorem rof7_day : Calls Try.prog 38 #[curV a1 n1 cap1 p1 i1, curV a2 n2 cap2 p2 i2] w (GivesE (eConv z1 p1 i1 z2 p2 i2) w) := by
  obtain ⟨L, hL, hl⟩ := lcm_day g1 g2 h1 h2
  exact rof7 a1 n1 cap1 z1 p1 i1 g1 a2 n2 cap2 z2 p2 i2 g2 L hl hL w r1 r2
end

end Go.Proofs.Ythljhddnfflpjaa
