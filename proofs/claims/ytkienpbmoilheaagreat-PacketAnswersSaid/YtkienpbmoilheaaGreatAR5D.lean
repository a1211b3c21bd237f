/- Contracts of the document's At, periodic, Least and Made at functions that are given like curves, perhaps beyond the limits. By the verifier's side. | The document's operations on pairs of curves: their beginning, and lists that grow value by value. By the verifier's side. | The document's Sum by its meaning. By the verifier's side. -/
import Derived.Test.YtkienpbmoilheaaGreatACurMToDecM
import Derived.Test.YtkienpbmoilheaaGreatARefPRefO
import Derived.Test.YtkienpbmoilheaaGreatAPwEKeepTPwFPwG
import Derived.Test.YtkienpbmoilheaaGreatACurX
import Derived.Test.YtkienpbmoilheaaGreatAPwSPwU
import Derived.BigRegion
namespace Go.Proofs.YtkienpbmoilheaaGreat
open Go.RowKit
set_option linter.unusedSimpArgs false

/-- The normal form of a function, perhaps beyond the limits, is handed back. -/
def GivesRaw (f : Nat → Int) (w : World) (e : Ending) (w' : World) : Prop :=
  ∃ (a : Option Addr) (n cap s r : Nat) (c : Int), e = .returned (curV a n cap r c) ∧ Below w.heap.size w w' ∧ RowZ w' a n cap (firsts f (s + r)) ∧ NormOf f s r c ∧ r ≤ 1024 ∧ (0 ≤ c ∧ c ≤ 36028797018963968) ∧ ∀ x, a = some x → w.heap.size ≤ x.block
theorem raw_post {w w2 : World} {b : Nat} (hb : Below w.heap.size w w2) (hwb : w.heap.size ≤ b) {a : Option Addr} {n cap m : Nat} {f : Nat → Int} (hr : RowZ w2 a n cap (firsts f m)) (hlt : ∀ x, a = some x → b < x.block) (s r : Nat) (c : Int) (hm : s + r = m) (hn : NormOf f s r c) (hr2 : r ≤ 1024) (hc : 0 ≤ c ∧ c ≤ 36028797018963968) :
    GivesRaw f w (.returned (curV a n cap r c)) (((w2.setCell ⟨b, 0, none⟩ (.slice a n cap)).setCell ⟨b, 1, none⟩ (.int .i64 r)).setCell ⟨b, 2, none⟩ (.int .i64 c)) := by
  subst hm
  exact ⟨a, n, cap, s, r, c, rfl, below_set3 hb hwb _ _ _, ((hr.store (fun x h _ => Nat.ne_of_gt (hlt x h)) _ _).store (fun x h _ => Nat.ne_of_gt (hlt x h)) _ _).store (fun x h _ => Nat.ne_of_gt (hlt x h)) _ _, hn, hr2, hc, fun x h => Nat.le_trans hwb (Nat.le_of_lt (hlt x h))⟩
/-- The first values are handed back, as an infinite curve. -/
def GivesTake (zs : List Int) (i : Nat) (w : World) (e : Ending) (w' : World) : Prop :=
  ∃ (a : Option Addr) (n cap : Nat), e = .returned (curV a n cap 1 0) ∧ Below w.heap.size w w' ∧ RowZ w' a n cap (zs.take (i + 1)) ∧ ∀ x, a = some x → w.heap.size ≤ x.block
theorem take_post {w w2 : World} {b : Nat} (hb : Below w.heap.size w w2) (hwb : w.heap.size ≤ b) {a : Option Addr} {n cap i : Nat} {zs : List Int} (hr : RowZ w2 a n cap (zs.take (i + 1))) (hlt : ∀ x, a = some x → b < x.block) :
    GivesTake zs i w (.returned (curV a n cap 1 0)) (((w2.setCell ⟨b, 0, none⟩ (.slice a n cap)).setCell ⟨b, 1, none⟩ (.int .i64 1)).setCell ⟨b, 2, none⟩ (.int .i64 0)) :=
  ⟨a, n, cap, rfl, below_set3 hb hwb _ _ _, ((hr.store (fun x h _ => Nat.ne_of_gt (hlt x h)) _ _).store (fun x h _ => Nat.ne_of_gt (hlt x h)) _ _).store (fun x h _ => Nat.ne_of_gt (hlt x h)) _ _, fun x h => Nat.le_trans hwb (Nat.le_of_lt (hlt x h))⟩

theorem GivesE.postOf {E : Nat → Option Int} {w w2 : World} {b : Nat} (hB : Below w.heap.size w w2) (hb1 : w.heap.size ≤ b) {a : Option Addr} {n cap : Nat} {zs : List Int} {p : Nat} {inc : Int} (hr : RowZ w2 a n cap zs) (hx : ∀ x, a = some x → b < x.block) (hf : EForm zs p inc E) :
    GivesE E w (.returned (.tuple #[curV a n cap p inc, .int .i64 0])) (((w2.setCell ⟨b, 0, none⟩ (.slice a n cap)).setCell ⟨b, 1, none⟩ (.int .i64 p)).setCell ⟨b, 2, none⟩ (.int .i64 inc)) := by
  have hne : ∀ x : Addr, a = some x → 1 ≤ n → x.block ≠ b := fun x h _ => by have := hx x h; omega
  exact ⟨below_set3 hB hb1 _ _ _, .inl ⟨a, n, cap, zs, p, inc, rfl, ((hr.store hne _ _).store hne _ _).store hne _ _, hf, fun x h => by have := hx x h; omega⟩⟩

set_option maxHeartbeats 1600000 in
theorem rat_raw (a : Option Addr) (n cap : Nat) (zs : List Int) (p : Nat) (inc : Int) (good : RawC zs p inc) (ti : Int) (t : Nat) (hti : ti = t) (ht : t ≤ n + 2048) (v : Int) (hv : atC zs p inc t = v) (w : World) (h : RowZ w a n cap zs) :
    Calls Tryz.prog 29 #[curV a n cap p inc, .int .i64 ti] w (Says (.int .i64 v) w) := by
  subst hti
  have hB := box_below w (.cells #[.slice a n cap, .int .i64 p, .int .i64 inc] 24)
  have HBl := Lib.hid hB
  have hrow := h.under hB
  have HV := Lib.hid hv
  have hlen := h.len
  have hfew := good.few
  have hp1 := good.p1
  have hp2 := good.p2
  have hp3 := good.p3
  have hi0 := good.i0
  have hi1 := good.i1
  have hn : n ≤ 8192 := by omega
  have hn1 : 1 ≤ n := by omega
  have hpn : p ≤ n := by omega
  have hnp : decide (n < p) = false := by simp; omega
  clear hv h hB
  by_cases hlt : t < n
  · obtain ⟨x, rfl, hc⟩ := hrow.cell t hlt
    have e : zs.getD t 0 = v := by rw [← HV.out, atC_lt (by omega)]
    rw [e] at hc
    have r10 : decide (n ≤ t) = false := by simp; omega
    have r13 : (t : Int) < (n : Int) := by omega
    clear hrow good hlen e
    go_enter Tryz.func29, Tryz.ntmps29
    go_wp2_with fail
    go_ret
    exact ⟨rfl, HBl.out⟩
  · obtain ⟨i1', i2', i3'⟩ := idx_facts hp1 hpn (show n ≤ t by omega)
    obtain ⟨u, hu⟩ : ∃ u, t = n + u := ⟨t - n, by omega⟩
    obtain ⟨c, hc⟩ : ∃ c, u / p = c := ⟨_, rfl⟩
    have hcu : c ≤ u := by rw [← hc]; exact Nat.div_le_self _ _
    obtain ⟨M, hM⟩ : ∃ M, (c + 1) * p = M := ⟨_, rfl⟩
    rw [show t - n = u by omega, hc, hM] at i1' i2' i3'
    obtain ⟨i, hi⟩ : ∃ i, t - M = i := ⟨_, rfl⟩
    rw [hi] at i2' i3'
    obtain ⟨x, rfl, hcell⟩ := hrow.cell i i3'
    obtain ⟨z, hzz⟩ : ∃ z, zs.getD i 0 = z := ⟨_, rfl⟩
    rw [hzz] at hcell
    have r1 : (t : Int) - (n : Int) = (u : Int) := by omega
    have r2 : (u : Int) / (p : Int) = (c : Int) := by rw [← hc, Int.natCast_ediv]
    have r3 : IntKind.i64.wrap (((c : Int) + 1) * (p : Int)) = (M : Int) := by
      rw [show ((c : Int) + 1) * (p : Int) = (M : Int) by rw [← hM]; simp]
      exact IntWalk.i64_in _ ⟨by omega, by omega⟩
    have r4 : (t : Int) - (M : Int) = (i : Int) := by omega
    have r5 : IntKind.i64.wrap (i : Int) = (i : Int) := IntWalk.i64_in _ ⟨by omega, by omega⟩
    have r8 : (0 : Int) ≤ (i : Int) := by omega
    have r9 : (i : Int) < (n : Int) := by omega
    have r10 : decide (n ≤ t) = true := by simp; omega
    have r13 : ¬ (t : Int) < (n : Int) := by omega
    have r14 : decide (t < n) = false := by simp; omega
    have r11 : ¬ (p : Int) = 0 := by omega
    have r12 : (1 : Int) ≤ (p : Int) := by omega
    have HI := Lib.hid (And.intro hc (And.intro hM (And.intro hi (And.intro hzz hu))))
    have i2'' := i2'
    have hz := good.fin
    have e : zs.getD (t - ((t - n) / p + 1) * p) 0 + (((t - n) / p + 1 : Nat) : Int) * inc = v := by rw [← HV.out, atC_ge hz (by omega), hlen]
    rw [show t - n = u by omega, hc, hM, hi, hzz] at e
    have hsm := good.small (show i < zs.length by omega)
    rw [hzz] at hsm
    obtain ⟨G, hG⟩ : ∃ G, ((c : Int) + 1) * inc = G := ⟨_, rfl⟩
    have e2 : z + G = v := by rw [← e, ← hG]; rfl
    have hG0 : 0 ≤ G ∧ G ≤ 2049 * 35184372088832 := by
      rw [← hG]
      have h1 : ((c : Int) + 1) * inc ≤ 2049 * 35184372088832 := Int.mul_le_mul (by omega) hi1 hi0 (by omega)
      exact ⟨Int.mul_nonneg (by omega) hi0, h1⟩
    have hz1 := hsm.1
    have hz2 := hsm.2
    have hG1 := hG0.1
    have hG2 := hG0.2
    have ez' : (z == 4611686018427387904) = false := by simp; omega
    have r6 : IntKind.i64.wrap (((c : Int) + 1) * inc) = G := by rw [hG]; exact IntWalk.i64_in _ ⟨by omega, by omega⟩
    have r7 : IntKind.i64.wrap (z + G) = v := by rw [e2]; exact IntWalk.i64_in _ ⟨by omega, by omega⟩
    have r77 : z + G = v := e2
    have HE := Lib.hid r77
    clear hrow good hlen hz e hc hM hi hzz hG e2 hu hsm hG0 i1' i2' i2'' r14 r77
    go_enter Tryz.func29, Tryz.ntmps29
    go_wp2_with fail
    go_ret
    exact ⟨ret_int (by first | exact HE.out | rfl), HBl.out⟩

set_option maxRecDepth 100000 in
set_option maxHeartbeats 3200000 in
theorem rper_raw (a : Option Addr) (n cap : Nat) (zs : List Int) (P : Nat) (inc : Int) (g : RawC zs P inc) (s q : Nat) (hs : s + P = n) (hq1 : 1 ≤ q) (hq2 : q ≤ P) (w : World) (h : RowZ w a n cap zs) :
    Calls Tryz.prog 62 #[curV a n cap P inc, .int .i64 s, .int .i64 q] w (PerSays (atC zs P inc) s P inc q w) := by
  have HBl := Lib.hid (box_below w (.cells #[.slice a n cap, .int .i64 P, .int .i64 inc] 24))
  have R0 := Lib.hid (h.under HBl.out)
  have B0 := Lib.hid (Cur3.new w (.slice a n cap) (.int .i64 P) (.int .i64 inc) 24)
  have G := Lib.hid g
  have hn4 : n ≤ 8192 := by have := g.few; have := h.len; omega
  have hP1 := g.p1; have hP2 := g.p2; have hi0 := g.i0; have hi1 := g.i1
  obtain ⟨f, hfe⟩ : ∃ f, atC zs P inc = f := ⟨_, rfl⟩
  have HBD : Hid (∀ t : Nat, 0 ≤ f t ∧ f t ≤ 2251799813685248 + 35184372088832 * ((t : Int) + 1)) := Lib.hid (by rw [← hfe]; exact g.bd)
  have HF := Lib.hid hfe
  rw [hfe]
  obtain ⟨m, hm⟩ : ∃ m, P % q = m := ⟨_, rfl⟩
  have hmI : (P : Int) % (q : Int) = (m : Int) := by rw [← hm]; simp
  obtain ⟨X, hX⟩ : ∃ X, inc * (q : Int) = X := ⟨_, rfl⟩
  have hXb : 0 ≤ X ∧ X ≤ 35184372088832 * 1024 := by rw [← hX]; exact ⟨Int.mul_nonneg hi0 (by omega), Int.mul_le_mul hi1 (by omega) (by omega) (by omega)⟩
  obtain ⟨hX0, hX1⟩ := hXb
  have hXw : IntKind.i64.wrap (inc * (q : Int)) = X := by rw [hX]; exact IntWalk.i64_in _ ⟨by omega, by omega⟩
  obtain ⟨m2, hm2⟩ : ∃ m2, X % (P : Int) = m2 := ⟨_, rfl⟩
  obtain ⟨d, hd⟩ : ∃ d, X / (P : Int) = d := ⟨_, rfl⟩
  have hdb : 0 ≤ d ∧ d ≤ X := by rw [← hd]; exact ⟨Int.ediv_nonneg hX0 (by omega), Int.ediv_le_self _ hX0⟩
  obtain ⟨hd0, hd1⟩ := hdb
  have HO : Hid (PerOk f s P inc q ↔ m = 0 ∧ m2 = 0 ∧ ∀ t, s ≤ t → t < s + P → f (t + q) = f t + d) := Lib.hid (by unfold PerOk; rw [hm, hX, hm2, hd])
  have HM := Lib.hid (And.intro hm hX)
  have z1 : ¬ (P : Int) = 0 := by omega
  have z2 : (1 : Int) ≤ (P : Int) := by omega
  have z3 : (0 : Int) ≤ (P : Int) := by omega
  have z4 : X.tdiv (P : Int) = d := by rw [Int.tdiv_eq_ediv_of_nonneg hX0]; exact hd
  have z5 : ((P : Int) == 0) = false := by simp; omega
  have z7 : ¬ P = 0 := by omega
  have z6 : IntKind.i64.wrap d = d := IntWalk.i64_in _ ⟨by omega, by omega⟩
  clear h g hfe hm hX
  by_cases h0 : m = 0
  · have t0 : ((m : Int) != 0) = false := by simp [h0]
    have H0 := Lib.hid h0
    clear h0
    by_cases h2 : m2 = 0
    · have t2 : (m2 != 0) = false := by simp [h2]
      have H2 := Lib.hid h2
      clear h2
      go_enter Tryz.func62, Tryz.ntmps62
      go_wp2_with fail
      simp only [hmI, hm2]
      generalize w.alloc (.cells #[.slice a n cap, .int .i64 P, .int .i64 inc] 24) = w0 at HBl R0 B0 ⊢
      go_loopw [7] (fun s7 wx => ∃ t : Nat, s7 = .int .i64 t ∧ s ≤ t ∧ t ≤ s + P ∧ Hid (∀ u, s ≤ u → u < t → f (u + q) = f u + d) ∧ Hid (Below w0.heap.size w0 wx)) (fun s7 _ => s + P - (intOf s7).toNat)
      case atStart => exact ⟨s, rfl, Nat.le_refl _, Nat.le_add_right _ _, fun u h1 h2 => by omega, Below.refl _ _⟩
      case round =>
        obtain ⟨t, rfl, ht1, ht2, hall, HBx⟩ := hrel
        obtain ⟨w1, rfl⟩ : ∃ u : World, u = wr := ⟨_, rfl⟩
        have B1 := Lib.hid (B0.out.below HBx.out)
        have R1 := Lib.hid (R0.out.under HBx.out)
        obtain ⟨c0, c1, c2, f0, f1, f2⟩ := B1.out
        by_cases hlt : t < s + P
        · have hlt' : (t : Int) < (s : Int) + (P : Int) := by omega
          obtain ⟨v1, hv1⟩ : ∃ v, f (t + q) = v := ⟨_, rfl⟩
          obtain ⟨v2, hv2⟩ : ∃ v, f t = v := ⟨_, rfl⟩
          have b1 := HBD.out (t + q)
          have b2 := HBD.out t
          rw [hv1] at b1
          rw [hv2] at b2
          have e1 := HF.out
          have HV1 : Hid (atC zs P inc (t + q) = v1) := Lib.hid (by rw [e1]; exact hv1)
          have HV2 : Hid (atC zs P inc t = v2) := Lib.hid (by rw [e1]; exact hv2)
          have HV := Lib.hid (And.intro hv1 hv2)
          have s1 : IntKind.i64.wrap (v2 + d) = v2 + d := IntWalk.i64_in _ ⟨by omega, by omega⟩
          have s2 : IntKind.i64.wrap ((t : Int) + (q : Int)) = (t : Int) + (q : Int) := IntWalk.i64_in _ ⟨by omega, by omega⟩
          have s3 : IntKind.i64.wrap d = d := IntWalk.i64_in _ ⟨by omega, by omega⟩
          clear e1 hv1 hv2 b1 b2
          go_wp2_with fail
          have O1 := Lib.hid (one_drew B1.out R1.out)
          refine wp_region_keeps (fun u => OneS w1 w.heap.size a n cap P inc zs u) 16 1 (by kernel_rfl) (by kernel_rfl) O1.out (fun hHeld => ?_)
          refine wpAnyK_take (i := 0) (v := ?_) rfl (by kernel_rfl) (fun _ _ _ h => h) (Or.inl ⟨by rfl, ?_⟩) (by assumption) ?_
          rotate_left
          · (intro w hSw; (try dsimp only at hSw); go_simp; try with_reducible rfl)
          try simp only [Act.put, List.setIfInBounds_toArray, List.set_cons_zero, List.set_cons_succ]
          refine wpAnyK_take (i := 1) (v := ?_) rfl (by kernel_rfl) (fun _ _ _ h => h) (Or.inl ⟨by rfl, ?_⟩) (by assumption) ?_
          rotate_left
          · (intro w hSw; (try dsimp only at hSw); go_simp; try with_reducible rfl)
          try simp only [Act.put, List.setIfInBounds_toArray, List.set_cons_zero, List.set_cons_succ]
          refine wpAnyK_take (i := 2) (v := ?_) rfl (by kernel_rfl) (fun _ _ _ h => h) (Or.inl ⟨by rfl, ?_⟩) (by assumption) ?_
          rotate_left
          · (intro w hSw; (try dsimp only at hSw); go_simp; try with_reducible rfl)
          try simp only [Act.put, List.setIfInBounds_toArray, List.set_cons_zero, List.set_cons_succ]
          refine wpAnyK_take (i := 3) (v := ?_) rfl (by kernel_rfl) (fun _ _ _ h => h) (Or.inl ⟨by rfl, ?_⟩) (by assumption) ?_
          rotate_left
          · (intro w hSw; (try dsimp only at hSw); go_simp; try with_reducible rfl)
          try simp only [Act.put, List.setIfInBounds_toArray, List.set_cons_zero, List.set_cons_succ]
          refine wpAnyK_take (i := 5) (v := ?_) rfl (by kernel_rfl) (fun _ _ _ h => h) (Or.inl ⟨by rfl, ?_⟩) (by assumption) ?_
          rotate_left
          · (intro w hSw; (try dsimp only at hSw); go_simp; try with_reducible rfl)
          try simp only [Act.put, List.setIfInBounds_toArray, List.set_cons_zero, List.set_cons_succ]
          refine wpAnyK_take (i := 6) (v := ?_) rfl (by kernel_rfl) (fun _ _ _ h => h) (Or.inl ⟨by rfl, ?_⟩) (by assumption) ?_
          rotate_left
          · (intro w hSw; (try dsimp only at hSw); go_simp; try with_reducible rfl)
          try simp only [Act.put, List.setIfInBounds_toArray, List.set_cons_zero, List.set_cons_succ]
          refine wpAnyK_take (i := 8) (v := ?_) rfl (by kernel_rfl) (fun _ _ _ h => h) (Or.inl ⟨by rfl, ?_⟩) (by assumption) ?_
          rotate_left
          · (intro w hSw; (try dsimp only at hSw); go_simp; try with_reducible rfl)
          try simp only [Act.put, List.setIfInBounds_toArray, List.set_cons_zero, List.set_cons_succ]
          refine wpAnyK_take (i := 9) (v := ?_) rfl (by kernel_rfl) (fun _ _ _ h => h) (Or.inl ⟨by rfl, ?_⟩) (by assumption) ?_
          rotate_left
          · (intro w hSw; (try dsimp only at hSw); go_simp; try with_reducible rfl)
          try simp only [Act.put, List.setIfInBounds_toArray, List.set_cons_zero, List.set_cons_succ]
          refine wpAnyK_take (i := 10) (v := ?_) rfl (by kernel_rfl) (fun _ _ _ h => h) (Or.inl ⟨by rfl, ?_⟩) (by assumption) ?_
          rotate_left
          · (intro w hSw; (try dsimp only at hSw); go_simp; try with_reducible rfl)
          try simp only [Act.put, List.setIfInBounds_toArray, List.set_cons_zero, List.set_cons_succ]
          refine wpAnyK_take (i := 11) (v := ?_) rfl (by kernel_rfl) (fun _ _ _ h => h) (Or.inl ⟨by rfl, ?_⟩) (by assumption) ?_
          rotate_left
          · (intro w hSw; (try dsimp only at hSw); go_simp; try with_reducible rfl)
          try simp only [Act.put, List.setIfInBounds_toArray, List.set_cons_zero, List.set_cons_succ]
          refine wpAnyK_take (i := 12) (v := ?_) rfl (by kernel_rfl) (fun _ _ _ h => h) (Or.inl ⟨by rfl, ?_⟩) (by assumption) ?_
          rotate_left
          · (intro w hSw; (try dsimp only at hSw); go_simp; try with_reducible rfl)
          try simp only [Act.put, List.setIfInBounds_toArray, List.set_cons_zero, List.set_cons_succ]
          refine wpAnyK_take (i := 13) (v := ?_) rfl (by kernel_rfl) (fun _ _ _ h => h) (Or.inl ⟨by rfl, ?_⟩) (by assumption) ?_
          rotate_left
          · (intro w hSw; (try dsimp only at hSw); go_simp; try with_reducible rfl)
          try simp only [Act.put, List.setIfInBounds_toArray, List.set_cons_zero, List.set_cons_succ]
          refine wpAnyK_take (i := 14) (v := ?_) rfl (by kernel_rfl) (fun _ _ _ h => h) (Or.inl ⟨by rfl, ?_⟩) (by assumption) ?_
          rotate_left
          · (intro w hSw; (try dsimp only at hSw); go_simp; try with_reducible rfl)
          try simp only [Act.put, List.setIfInBounds_toArray, List.set_cons_zero, List.set_cons_succ]
          refine wpAnyK_step (i := 4) rfl (by kernel_rfl) (fun K hK => ?_)
          go_simp
          refine (rat_raw a n cap zs P inc G.out _ (t + q) (by omega) (by omega) v1 HV1.out _ (one_row O1.out)).mono ?_
          rintro e w2 ⟨rfl, hb2⟩
          have O2 := Lib.hid (one_call O1.out hb2)
          refine hK.out _ _ O2.out (fun hHeld2 => ?_)
          clear hK K hHeld hb2
          try simp only [Act.put, List.setIfInBounds_toArray, List.set_cons_zero, List.set_cons_succ]
          refine wpAnyK_step (i := 7) rfl (by kernel_rfl) (fun K hK => ?_)
          go_simp
          refine (rat_raw a n cap zs P inc G.out _ t rfl (by omega) v2 HV2.out _ (one_row O2.out)).mono ?_
          rintro e w3 ⟨rfl, hb3⟩
          have O3 := Lib.hid (one_call O2.out hb3)
          refine hK.out _ _ O3.out (fun hHeld3 => ?_)
          clear hK K hHeld2 hb3
          try simp only [Act.put, List.setIfInBounds_toArray, List.set_cons_zero, List.set_cons_succ]
          refine wpAnyK_take (i := 15) (v := ?_) rfl (by kernel_rfl) (fun _ _ _ h => h) (Or.inl ⟨by rfl, ?_⟩) (by assumption) ?_
          rotate_left
          · (intro w hSw; (try dsimp only at hSw); go_simp; try with_reducible rfl)
          try simp only [Act.put, List.setIfInBounds_toArray, List.set_cons_zero, List.set_cons_succ]
          refine wpAnyK_done (by kernel_rfl) ?_
          simp only [List.drop_succ_cons, List.drop_zero]
          clear hHeld3
          by_cases hv : v1 = v2 + d
          · have tv : (v1 != v2 + d) = false := by simpa using hv
            have HV3 := Lib.hid hv
            have HB3 := Lib.hid (HBx.out.trans ((one_below O3.out).mono HBx.out.size))
            clear hv
            go_wp2_with fail
            go_roundw
            case rel =>
              have hall2 : Hid (∀ u, s ≤ u → u < t + 1 → f (u + q) = f u + d) := Lib.hid fun u h1 h2 => by
                by_cases he : u = t
                · subst he; rw [HV.out.1, HV.out.2]; exact HV3.out
                · exact hall.out u h1 (by omega)
              exact ⟨t + 1, by go_num, by omega, by omega, hall2, HB3⟩
            case measure => simp [intOf]; omega
          · have tv : (v1 != v2 + d) = true := by simpa using hv
            have HV3 := Lib.hid hv
            have HB3 := Lib.hid (HBx.out.trans ((one_below O3.out).mono HBx.out.size))
            clear hv
            go_wp2_with fail
            go_ret
            refine ⟨false, ⟨fun h => absurd h (by decide), fun h => ?_⟩, rfl, HBl.out.trans (HB3.out.mono HBl.out.size)⟩
            have h3 := (HO.out.1 h).2.2 t ht1 hlt
            rw [HV.out.1, HV.out.2] at h3
            exact absurd h3 HV3.out
        · have hlt' : ¬ (t : Int) < (s : Int) + (P : Int) := by omega
          obtain rfl : t = s + P := by omega
          go_wp2_with fail
          go_ret
          refine ⟨true, ⟨fun _ => HO.out.2 ⟨H0.out, H2.out, fun u h1 h2 => hall.out u h1 h2⟩, fun _ => rfl⟩, rfl, HBl.out.trans (HBx.out.mono HBl.out.size)⟩
    · have t2 : (m2 != 0) = true := by simpa using h2
      have H2 := Lib.hid h2
      clear h2
      go_enter Tryz.func62, Tryz.ntmps62
      go_wp2_with fail
      go_ret
      exact ⟨false, ⟨fun h => absurd h (by decide), fun h => absurd (HO.out.1 h).2.1 H2.out⟩, rfl, HBl.out⟩
  · have t0 : ((m : Int) != 0) = true := by simp; omega
    have H0 := Lib.hid h0
    clear h0
    go_enter Tryz.func62, Tryz.ntmps62
    go_wp2_with fail
    go_ret
    exact ⟨false, ⟨fun h => absurd h (by decide), fun h => absurd (HO.out.1 h).1 H0.out⟩, rfl, HBl.out⟩

set_option maxRecDepth 100000 in
set_option maxHeartbeats 1000000 in
theorem rleast_raw (a : Option Addr) (n cap : Nat) (zs : List Int) (P : Nat) (inc : Int) (g : RawC zs P inc) (w : World) (h : RowZ w a n cap zs) :
    Calls Tryz.prog 37 #[curV a n cap P inc] w (GivesRaw (atC zs P inc) w) := by
  obtain ⟨i0, hi, hz0, hz1, hz2⟩ := info_parts info_int
  have hB : Below w.heap.size w ((w.alloc (.cells #[.slice a n cap, .int .i64 P, .int .i64 inc] 24)).alloc (.cells #[.slice none 0 0, .int .i64 0, .int .i64 0] 24)) := ((Below.refl _ _).alloc (Nat.le_refl _) _).alloc (by simp) _
  have H0 := Lib.hid h
  have L0 := Lib.hid (show Ls w a n cap P inc zs ((w.alloc (.cells #[.slice a n cap, .int .i64 P, .int .i64 inc] 24)).alloc (.cells #[.slice none 0 0, .int .i64 0, .int .i64 0] 24)) from
    ⟨hB, (Cur3.new w _ _ _ _).alloc _, h.under hB, Cur3.new2 w _ _ _ _ _⟩)
  have G := Lib.hid g
  have HL := Lib.hid h.len
  have hn4 : n ≤ 8192 := by have := g.few; have := h.len; omega
  have hP1 := g.p1; have hP2 := g.p2; have hi0 := g.i0; have hi1 := g.i1
  have hPn : P ≤ n := by have := g.p3; have := h.len; omega
  obtain ⟨s, hs⟩ : ∃ s, n = s + P := ⟨n - P, by omega⟩
  obtain ⟨f, hfe⟩ : ∃ f, atC zs P inc = f := ⟨_, rfl⟩
  have HBD : Hid (∀ t : Nat, 0 ≤ f t ∧ f t ≤ 2251799813685248 + 35184372088832 * ((t : Int) + 1)) := Lib.hid (by rw [← hfe]; exact g.bd)
  have HPER : Hid (Per f s P inc) := Lib.hid (by rw [← hfe]; have := g.per; rwa [h.len, show n - P = s by omega] at this)
  have HF := Lib.hid hfe
  have hsn : (n : Int) - (P : Int) = (s : Int) := by omega
  have HSN := Lib.hid hs
  have hs4 : s ≤ 8192 := by omega
  clear h hB g hfe hs
  go_enter Tryz.func37, Tryz.ntmps37
  go_wp2_with fail
  generalize (w.alloc (.cells #[.slice a n cap, .int .i64 P, .int .i64 inc] 24)).alloc (.cells #[.slice none 0 0, .int .i64 0, .int .i64 0] 24) = w0 at L0 ⊢
  go_loopw [3] (fun s3 wx => ∃ k : Nat, s3 = .int .i64 k ∧ k ≤ n ∧ Hid (Ls w a n cap P inc zs wx)) (fun s3 _ => n - (intOf s3).toNat)
  case atStart => exact ⟨0, rfl, Nat.zero_le _, L0⟩
  case round =>
    clear L0
    obtain ⟨k, rfl, hk, L0⟩ := hrel
    obtain ⟨w0, rfl⟩ : ∃ u : World, u = wr := ⟨_, rfl⟩
    obtain ⟨c0, c1, c2, f0, f1, f2⟩ := L0.out.bf
    by_cases hlt : k < n
    · obtain ⟨x, rfl, ck⟩ := L0.out.rf.cell k hlt
      obtain ⟨v, hv⟩ : ∃ v, zs.getD k 0 = v := ⟨_, rfl⟩
      have hb := G.out.small (i := k) (by rw [HL.out]; exact hlt)
      rw [hv] at ck hb
      have tv : (v == 4611686018427387904) = false := by simp; omega
      clear hv hb
      go_wp2_with fail
      go_roundw
      case rel => exact ⟨k + 1, by go_num, by omega, L0⟩
      case measure => simp [intOf]; omega
    · obtain rfl : k = n := by omega
      go_wp2_with fail
      clear c0 c1 c2 f0 f1 f2 hlt
      go_loopw [5] (fun s5 wx => ∃ q : Nat, s5 = .int .i64 q ∧ 1 ≤ q ∧ q ≤ P ∧ Hid (∀ r, 1 ≤ r → r < q → ¬ PerOk f s P inc r) ∧ Hid (Ls w a k cap P inc zs wx)) (fun s5 _ => P - (intOf s5).toNat)
      case atStart => exact ⟨1, rfl, by omega, by omega, fun r h1 h2 => by omega, L0⟩
      case round =>
        obtain ⟨q, rfl, hq1, hq2, hall, L1⟩ := hrel
        obtain ⟨w1, rfl⟩ : ∃ u : World, u = wr := ⟨_, rfl⟩
        obtain ⟨c0, c1, c2, f0, f1, f2⟩ := L1.out.bf
        go_wp2_with fail
        refine (rper_raw a k cap zs P inc G.out s q (by have := HSN.out; omega) hq1 hq2 _ L1.out.rf).mono ?_
        rintro e w2 ⟨b, hb, rfl, hb2⟩
        have HBB := Lib.hid hb
        have L2 := Lib.hid (L1.out.under hb2)
        clear hb hb2 c0 c1 c2 f0 f1 f2
        cases b with
        | false =>
          have hno : ¬ PerOk f s P inc q := fun hp => absurd (HBB.out.2 (by rw [HF.out]; exact hp)) (by decide)
          have hqP : q < P := by
            rcases Nat.lt_or_ge q P with h1 | h1
            · exact h1
            · exact absurd (by rw [show q = P by omega]; exact perOk_self hP1 HPER.out) hno
          have HNO := Lib.hid hno
          clear hno
          go_wp2_with fail
          go_roundw
          case rel =>
            refine ⟨q + 1, by go_num, by omega, by omega, Lib.hid fun r h1 h2 => ?_, L2⟩
            by_cases he : r = q
            · subst he; exact HNO.out
            · exact hall.out r h1 (by omega)
          case measure => simp [intOf]; omega
        | true =>
          have hyes : PerOk f s P inc q := by have := HBB.out.1 rfl; rwa [HF.out] at this
          obtain ⟨X, hX⟩ : ∃ X, inc * (q : Int) = X := ⟨_, rfl⟩
          have hXb : 0 ≤ X ∧ X ≤ 35184372088832 * 1024 := by rw [← hX]; exact ⟨Int.mul_nonneg hi0 (by omega), Int.mul_le_mul hi1 (by omega) (by omega) (by omega)⟩
          obtain ⟨hX0, hX1⟩ := hXb
          have hXw : IntKind.i64.wrap (inc * (q : Int)) = X := by rw [hX]; exact IntWalk.i64_in _ ⟨by omega, by omega⟩
          obtain ⟨d, hd⟩ : ∃ d, X / (P : Int) = d := ⟨_, rfl⟩
          have hdb : 0 ≤ d ∧ d ≤ X := by rw [← hd]; exact ⟨Int.ediv_nonneg hX0 (by omega), Int.ediv_le_self _ hX0⟩
          obtain ⟨hd0, hd1⟩ := hdb
          have hdf : f (s + q) - f s = d := by have h1 := hyes.2.2 s (Nat.le_refl _) (by omega); rw [hX, hd] at h1; omega
          have HG := Lib.hid (hyes.grows)
          have HD := Lib.hid hdf
          have z1 : ¬ (P : Int) = 0 := by omega
          have z2 : (1 : Int) ≤ (P : Int) := by omega
          have z4 : X.tdiv (P : Int) = d := by rw [Int.tdiv_eq_ediv_of_nonneg hX0]; exact hd
          have z6 : IntKind.i64.wrap d = d := IntWalk.i64_in _ ⟨by omega, by omega⟩
          have z7 : ¬ P = 0 := by omega
          clear hyes hX hdf
          obtain ⟨c0, c1, c2, f0, f1, f2⟩ := L2.out.bf
          go_wp2_with fail
          clear c0 c1 c2 f0 f1 f2 hd z4 hXw
          go_loopw [4] (fun s4 wx => ∃ t : Nat, s4 = .int .i64 t ∧ t ≤ s ∧ Hid (∀ u, t ≤ u → u < s → f (u + q) - f u = d) ∧ Hid (Ls w a k cap P inc zs wx)) (fun s4 _ => (intOf s4).toNat)
          case atStart => exact ⟨s, rfl, Nat.le_refl _, fun u h1 h2 => by omega, L2⟩
          case round =>
            obtain ⟨t, rfl, ht, hall2, L3⟩ := hrel
            obtain ⟨w3, rfl⟩ : ∃ u : World, u = wr := ⟨_, rfl⟩
            go_wp2_with fail
            go_cut [66] (fun s66 wx => ∃ bt : Bool, s66 = .bool bt ∧ (bt = true ↔ 0 < t ∧ f (t - 1 + q) = f (t - 1) + d) ∧ Hid (Ls w a k cap P inc zs wx))
            case first =>
              by_cases ht0 : t = 0
              · have u1 : decide (0 < t) = false := by simp; omega
                have u2 : decide ((0 : Int) < (t : Int)) = false := by simp; omega
                have HT := Lib.hid ht0
                clear ht0
                obtain ⟨c0, c1, c2, f0, f1, f2⟩ := L3.out.bf
                go_quiet (fail)
                go_wp2_with fail
                go_meet
                exact ⟨false, rfl, ⟨fun h => absurd h (by decide), fun h => by have := HT.out; omega⟩, L3.out.under ((Below.refl _ _).drewN _)⟩
              · have u1 : decide (0 < t) = true := by simp; omega
                have u2 : decide ((0 : Int) < (t : Int)) = true := by simp; omega
                have u3 : 0 < t := by omega
                obtain ⟨j, hj⟩ : ∃ j, t = j + 1 := ⟨t - 1, by omega⟩
                obtain ⟨v1, hv1⟩ : ∃ v, f (j + q) = v := ⟨_, rfl⟩
                obtain ⟨v2, hv2⟩ : ∃ v, f j = v := ⟨_, rfl⟩
                have b1 := HBD.out (j + q)
                have b2 := HBD.out j
                rw [hv1] at b1
                rw [hv2] at b2
                have e1 := HF.out
                have HV1 : Hid (atC zs P inc (j + q) = v1) := Lib.hid (by rw [e1]; exact hv1)
                have HV2 : Hid (atC zs P inc j = v2) := Lib.hid (by rw [e1]; exact hv2)
                have HV : Hid (f (t - 1 + q) = v1 ∧ f (t - 1) = v2) := Lib.hid (by rw [show t - 1 = j by omega]; exact ⟨hv1, hv2⟩)
                have s1 : IntKind.i64.wrap (v2 + d) = v2 + d := IntWalk.i64_in _ ⟨by omega, by omega⟩
                have s2 : IntKind.i64.wrap ((t : Int) - 1) = (j : Int) := by rw [show (t : Int) - 1 = (j : Int) by omega]; exact IntWalk.i64_in _ ⟨by omega, by omega⟩
                have s3 : (t : Int) - 1 = (j : Int) := by omega
                have s4 : IntKind.i64.wrap ((j : Int) + (q : Int)) = (j : Int) + (q : Int) := IntWalk.i64_in _ ⟨by omega, by omega⟩
                have s5 : IntKind.i64.wrap (j : Int) = (j : Int) := IntWalk.i64_in _ ⟨by omega, by omega⟩
                have hj4 : j ≤ 8192 := by omega
                clear e1 hv1 hv2 b1 b2 ht0 hj
                have O1 := Lib.hid (ls_s (L3.out.under (Below.refl _ _).drew))
                refine wp_region_keeps (fun u => LsS w a k cap P inc zs u) 16 1 (by kernel_rfl) (by kernel_rfl) O1.out (fun hHeld => ?_)
                refine wpAnyK_take (i := 0) (v := ?_) rfl (by kernel_rfl) (fun _ _ _ h => h) (Or.inl ⟨by rfl, ?_⟩) (by assumption) ?_
                rotate_left
                · (intro w hSw; (try dsimp only at hSw); go_simp; try with_reducible rfl)
                try simp only [Act.put, List.getElem_toArray, List.getElem_cons_zero, List.getElem_cons_succ, List.setIfInBounds_toArray, List.set_cons_zero, List.set_cons_succ]
                refine wpAnyK_take (i := 1) (v := ?_) rfl (by kernel_rfl) (fun _ _ _ h => h) (Or.inl ⟨by rfl, ?_⟩) (by assumption) ?_
                rotate_left
                · (intro w hSw; (try dsimp only at hSw); go_simp; try with_reducible rfl)
                try simp only [Act.put, List.getElem_toArray, List.getElem_cons_zero, List.getElem_cons_succ, List.setIfInBounds_toArray, List.set_cons_zero, List.set_cons_succ]
                refine wpAnyK_take (i := 2) (v := ?_) rfl (by kernel_rfl) (fun _ _ _ h => h) (Or.inl ⟨by rfl, ?_⟩) (by assumption) ?_
                rotate_left
                · (intro w hSw; (try dsimp only at hSw); go_simp; try with_reducible rfl)
                try simp only [Act.put, List.getElem_toArray, List.getElem_cons_zero, List.getElem_cons_succ, List.setIfInBounds_toArray, List.set_cons_zero, List.set_cons_succ]
                refine wpAnyK_take (i := 3) (v := ?_) rfl (by kernel_rfl) (fun _ _ _ h => h) (Or.inl ⟨by rfl, ?_⟩) (by assumption) ?_
                rotate_left
                · (intro w hSw; (try dsimp only at hSw); go_simp; try with_reducible rfl)
                try simp only [Act.put, List.getElem_toArray, List.getElem_cons_zero, List.getElem_cons_succ, List.setIfInBounds_toArray, List.set_cons_zero, List.set_cons_succ]
                refine wpAnyK_take (i := 4) (v := ?_) rfl (by kernel_rfl) (fun _ _ _ h => h) (Or.inl ⟨by rfl, ?_⟩) (by assumption) ?_
                rotate_left
                · (intro w hSw; (try dsimp only at hSw); go_simp; try with_reducible rfl)
                try simp only [Act.put, List.getElem_toArray, List.getElem_cons_zero, List.getElem_cons_succ, List.setIfInBounds_toArray, List.set_cons_zero, List.set_cons_succ]
                refine wpAnyK_take (i := 5) (v := ?_) rfl (by kernel_rfl) (fun _ _ _ h => h) (Or.inl ⟨by rfl, ?_⟩) (by assumption) ?_
                rotate_left
                · (intro w hSw; (try dsimp only at hSw); go_simp; try with_reducible rfl)
                try simp only [Act.put, List.getElem_toArray, List.getElem_cons_zero, List.getElem_cons_succ, List.setIfInBounds_toArray, List.set_cons_zero, List.set_cons_succ]
                refine wpAnyK_take (i := 6) (v := ?_) rfl (by kernel_rfl) (fun _ _ _ h => h) (Or.inl ⟨by rfl, ?_⟩) (by assumption) ?_
                rotate_left
                · (intro w hSw; (try dsimp only at hSw); go_simp; try with_reducible rfl)
                try simp only [Act.put, List.getElem_toArray, List.getElem_cons_zero, List.getElem_cons_succ, List.setIfInBounds_toArray, List.set_cons_zero, List.set_cons_succ]
                refine wpAnyK_take (i := 7) (v := ?_) rfl (by kernel_rfl) (fun _ _ _ h => h) (Or.inl ⟨by rfl, ?_⟩) (by assumption) ?_
                rotate_left
                · (intro w hSw; (try dsimp only at hSw); go_simp; try with_reducible rfl)
                try simp only [Act.put, List.getElem_toArray, List.getElem_cons_zero, List.getElem_cons_succ, List.setIfInBounds_toArray, List.set_cons_zero, List.set_cons_succ]
                refine wpAnyK_take (i := 9) (v := ?_) rfl (by kernel_rfl) (fun _ _ _ h => h) (Or.inl ⟨by rfl, ?_⟩) (by assumption) ?_
                rotate_left
                · (intro w hSw; (try dsimp only at hSw); go_simp; try with_reducible rfl)
                try simp only [Act.put, List.getElem_toArray, List.getElem_cons_zero, List.getElem_cons_succ, List.setIfInBounds_toArray, List.set_cons_zero, List.set_cons_succ]
                refine wpAnyK_take (i := 10) (v := ?_) rfl (by kernel_rfl) (fun _ _ _ h => h) (Or.inl ⟨by rfl, ?_⟩) (by assumption) ?_
                rotate_left
                · (intro w hSw; (try dsimp only at hSw); go_simp; try with_reducible rfl)
                try simp only [Act.put, List.getElem_toArray, List.getElem_cons_zero, List.getElem_cons_succ, List.setIfInBounds_toArray, List.set_cons_zero, List.set_cons_succ]
                refine wpAnyK_take (i := 11) (v := ?_) rfl (by kernel_rfl) (fun _ _ _ h => h) (Or.inl ⟨by rfl, ?_⟩) (by assumption) ?_
                rotate_left
                · (intro w hSw; (try dsimp only at hSw); go_simp; try with_reducible rfl)
                try simp only [Act.put, List.getElem_toArray, List.getElem_cons_zero, List.getElem_cons_succ, List.setIfInBounds_toArray, List.set_cons_zero, List.set_cons_succ]
                refine wpAnyK_take (i := 13) (v := ?_) rfl (by kernel_rfl) (fun _ _ _ h => h) (Or.inl ⟨by rfl, ?_⟩) (by assumption) ?_
                rotate_left
                · (intro w hSw; (try dsimp only at hSw); go_simp; try with_reducible rfl)
                try simp only [Act.put, List.getElem_toArray, List.getElem_cons_zero, List.getElem_cons_succ, List.setIfInBounds_toArray, List.set_cons_zero, List.set_cons_succ]
                refine wpAnyK_step (i := 8) rfl (by kernel_rfl) (fun K hK => ?_)
                go_simp
                refine (rat_raw a k cap zs P inc G.out _ (j + q) (by omega) (by omega) v1 HV1.out _ O1.out.2.2.2.out.rf).mono ?_
                rintro e w4 ⟨rfl, hb4⟩
                have O2 := Lib.hid (ls_s (O1.out.2.2.2.out.under hb4))
                refine hK.out _ _ O2.out (fun hHeld2 => ?_)
                clear hK K hHeld hb4
                try simp only [Act.put, List.getElem_toArray, List.getElem_cons_zero, List.getElem_cons_succ, List.setIfInBounds_toArray, List.set_cons_zero, List.set_cons_succ]
                refine wpAnyK_step (i := 12) rfl (by kernel_rfl) (fun K hK => ?_)
                go_simp
                refine (rat_raw a k cap zs P inc G.out _ j rfl (by omega) v2 HV2.out _ O2.out.2.2.2.out.rf).mono ?_
                rintro e w5 ⟨rfl, hb5⟩
                have O3 := Lib.hid (ls_s (O2.out.2.2.2.out.under hb5))
                refine hK.out _ _ O3.out (fun hHeld3 => ?_)
                clear hK K hHeld2 hb5
                try simp only [Act.put, List.getElem_toArray, List.getElem_cons_zero, List.getElem_cons_succ, List.setIfInBounds_toArray, List.set_cons_zero, List.set_cons_succ]
                refine wpAnyK_take (i := 14) (v := ?_) rfl (by kernel_rfl) (fun _ _ _ h => h) (Or.inl ⟨by rfl, ?_⟩) (by assumption) ?_
                rotate_left
                · (intro w hSw; (try dsimp only at hSw); go_simp; try with_reducible rfl)
                try simp only [Act.put, List.getElem_toArray, List.getElem_cons_zero, List.getElem_cons_succ, List.setIfInBounds_toArray, List.set_cons_zero, List.set_cons_succ]
                refine wpAnyK_take (i := 15) (v := ?_) rfl (by kernel_rfl) (fun _ _ _ h => h) (Or.inl ⟨by rfl, ?_⟩) (by assumption) ?_
                rotate_left
                · (intro w hSw; (try dsimp only at hSw); go_simp; try with_reducible rfl)
                try simp only [Act.put, List.getElem_toArray, List.getElem_cons_zero, List.getElem_cons_succ, List.setIfInBounds_toArray, List.set_cons_zero, List.set_cons_succ]
                refine wpAnyK_done (by kernel_rfl) ?_
                simp only [List.drop_succ_cons, List.drop_zero]
                clear hHeld3
                go_wp2_with fail
                go_meet
                exact ⟨v1 == v2 + d, rfl, ⟨fun h => ⟨u3, by rw [HV.out.1, HV.out.2]; exact beq_iff_eq.1 h⟩, fun h => by rw [HV.out.1, HV.out.2] at h; exact beq_iff_eq.2 h.2⟩, O3.out.2.2.2⟩
            case rest =>
              obtain ⟨bt, rfl, hbt, L4⟩ := hcut
              obtain ⟨w4, rfl⟩ : ∃ u : World, u = wc := ⟨_, rfl⟩
              have HBT := Lib.hid hbt
              clear hbt L3
              cases bt with
              | true =>
                have ht0 := (HBT.out.1 rfl).1
                obtain ⟨j, rfl⟩ : ∃ j, t = j + 1 := ⟨t - 1, by omega⟩
                have HT := Lib.hid (HBT.out.1 rfl).2
                clear ht0
                go_wp2_with fail
                go_roundw
                case rel =>
                  refine ⟨j, by go_num, by omega, Lib.hid fun u h1 h2 => ?_, L4⟩
                  by_cases he : u = j
                  · subst he; have h3 := HT.out; rw [Nat.add_sub_cancel] at h3; omega
                  · exact hall2.out u (by omega) h2
                case measure => simp [intOf]
              | false =>
                have hend : t = 0 ∨ ¬ f (t - 1 + q) - f (t - 1) = d := by
                  by_cases h0 : t = 0
                  · exact .inl h0
                  · exact .inr fun h3 => absurd (HBT.out.2 ⟨by omega, by omega⟩) (by decide)
                have HNO : Hid (NormOf f t q d) := Lib.hid (by
                  have h4 := normOf_found (r := q) HPER.out hP1 hq1 hq2 (fun _ => HG.out) (perOk_least hP1 HPER.out hall.out) ht (fun u h1 h2 => by rw [HD.out]; exact hall2.out u h1 h2) (by rw [HD.out]; exact hend)
                  rwa [HD.out] at h4)
                obtain ⟨m, hm⟩ : ∃ m, t + q = m := ⟨_, rfl⟩
                have hmk : m ≤ k := by have := HSN.out; omega
                have hmI : (t : Int) + (q : Int) = (m : Int) := by omega
                have hmw : IntKind.i64.wrap ((t : Int) + (q : Int)) = (m : Int) := by rw [hmI]; exact IntWalk.i64_in _ ⟨by omega, by omega⟩
                have HMM := Lib.hid hm
                clear hend hm
                go_wp2_with fail
                have hO : w.heap.size + 1 < w4.heap.size := L4.out.br.lt
                have L5 := Lib.hid (L4.out.under ((Below.refl _ _).alloc (Nat.le_refl _) (.cells #[.slice none 0 0, .int .i64 q, .int .i64 d] 24)))
                have B5 := Lib.hid (Cur3.new w4 (.slice none 0 0) (.int .i64 q) (.int .i64 d) 24)
                obtain ⟨O, hOe⟩ : ∃ O, w4.heap.size = O := ⟨_, rfl⟩
                generalize w4.alloc (.cells #[.slice none 0 0, .int .i64 q, .int .i64 d] 24) = w5 at L5 B5 ⊢
                rw [hOe] at hO B5 ⊢
                clear hOe L4 hall2
                have hwO1 : ¬ w.heap.size = O := by omega
                have hwO2 : ¬ w.heap.size + 1 = O := by omega
                go_loopw [8] (fun s8 wx => ∃ (k2 : Nat) (sv : Value), s8 = .int .i64 k2 ∧ k2 ≤ m ∧ Hid (Ls w a k cap P inc zs wx) ∧ Hid (Cur3 wx O sv (.int .i64 q) (.int .i64 d)) ∧ Hid (wx.ownsRow (O + 1) 3 1 sv k2 ((firsts f k2).map (Value.int .i64)))) (fun s8 _ => m - (intOf s8).toNat)
                case atStart => exact ⟨0, .slice none 0 0, rfl, Nat.zero_le _, L5, B5, World.ownsRow_nil _ _ _ _⟩
                case round =>
                  obtain ⟨k2, sv, rfl, hk2, L6, B6, O6⟩ := hrel
                  obtain ⟨w6, rfl⟩ : ∃ u : World, u = wr := ⟨_, rfl⟩
                  by_cases hlt : k2 < m
                  · have hlt' : (k2 : Int) < (m : Int) := by omega
                    obtain ⟨v, hv⟩ : ∃ v, f k2 = v := ⟨_, rfl⟩
                    have e1 := HF.out
                    have HV1 : Hid (atC zs P inc k2 = v) := Lib.hid (by rw [e1]; exact hv)
                    have HV2 := Lib.hid hv
                    clear e1 hv
                    go_wp2_with fail
                    refine wp_region_keeps (fun u => u.cell? ⟨O, 0, none⟩ = some sv ∧ LsS w a k cap P inc zs u) 6 3 (by kernel_rfl) (by kernel_rfl) ⟨B6.out.c0, ls_s (L6.out.under (Below.refl _ _).drew)⟩ (fun hHeld => ?_)
                    refine wpAnyK_take (i := 0) (v := ?_) rfl (by kernel_rfl) (fun _ _ _ h => h) (Or.inl ⟨by rfl, ?_⟩) (by assumption) ?_
                    rotate_left
                    · (intro w hSw; (try dsimp only at hSw); go_simp; try with_reducible rfl)
                    try simp only [Act.put, List.getElem_toArray, List.getElem_cons_zero, List.getElem_cons_succ, List.setIfInBounds_toArray, List.set_cons_zero, List.set_cons_succ]
                    refine wpAnyK_take (i := 1) (v := ?_) rfl (by kernel_rfl) (fun _ _ _ h => h) (Or.inl ⟨by rfl, ?_⟩) (by assumption) ?_
                    rotate_left
                    · (intro w hSw; (try dsimp only at hSw); go_simp; try with_reducible rfl)
                    try simp only [Act.put, List.getElem_toArray, List.getElem_cons_zero, List.getElem_cons_succ, List.setIfInBounds_toArray, List.set_cons_zero, List.set_cons_succ]
                    refine wpAnyK_take (i := 2) (v := ?_) rfl (by kernel_rfl) (fun _ _ _ h => h) (Or.inl ⟨by rfl, ?_⟩) (by assumption) ?_
                    rotate_left
                    · (intro w hSw; (try dsimp only at hSw); go_simp; try with_reducible rfl)
                    try simp only [Act.put, List.getElem_toArray, List.getElem_cons_zero, List.getElem_cons_succ, List.setIfInBounds_toArray, List.set_cons_zero, List.set_cons_succ]
                    refine wpAnyK_take (i := 3) (v := ?_) rfl (by kernel_rfl) (fun _ _ _ h => h) (Or.inl ⟨by rfl, ?_⟩) (by assumption) ?_
                    rotate_left
                    · (intro w hSw; (try dsimp only at hSw); go_simp; try with_reducible rfl)
                    try simp only [Act.put, List.getElem_toArray, List.getElem_cons_zero, List.getElem_cons_succ, List.setIfInBounds_toArray, List.set_cons_zero, List.set_cons_succ]
                    refine wpAnyK_step (i := 4) rfl (by kernel_rfl) (fun K hK => ?_)
                    go_simp
                    refine (rat_raw a k cap zs P inc G.out _ k2 rfl (by omega) v HV1.out _ (L6.out.under (Below.refl _ _).drew).rf).mono ?_
                    rintro e w7 ⟨rfl, hb7⟩
                    have hb67 : Below w6.heap.size w6 w7 := ((Below.refl _ _).drew : Below w6.heap.size w6 w6.drew).trans hb7
                    have L7 := Lib.hid (L6.out.under hb67)
                    have B7 := Lib.hid (B6.out.below hb67)
                    have O7 : Hid (w7.ownsRow (O + 1) 3 1 sv k2 ((firsts f k2).map (Value.int .i64))) := Lib.hid (owns_apart O6.out (below_apart (b := w.heap.size) hb67) (by omega))
                    refine hK.out _ _ ⟨B7.out.c0, ls_s L7.out⟩ (fun hHeld2 => ?_)
                    clear hK K hHeld hb7 hb67
                    try simp only [Act.put, List.getElem_toArray, List.getElem_cons_zero, List.getElem_cons_succ, List.setIfInBounds_toArray, List.set_cons_zero, List.set_cons_succ]
                    refine wpAnyK_step (i := 5) rfl (by kernel_rfl) (fun K hK => ?_)
                    go_simp
                    have L8 := Lib.hid (L7.out.under ((Below.refl _ _).alloc (Nat.le_refl _) (.cells #[.int .i64 v] 3)))
                    have B8 := Lib.hid (B7.out.alloc (.cells #[.int .i64 v] 3))
                    refine hK.out _ _ ⟨B8.out.c0, ls_s L8.out⟩ (fun hHeld3 => ?_)
                    clear hK K hHeld2
                    try simp only [Act.put, List.getElem_toArray, List.getElem_cons_zero, List.getElem_cons_succ, List.setIfInBounds_toArray, List.set_cons_zero, List.set_cons_succ]
                    refine wpAnyK_done (by kernel_rfl) ?_
                    simp only [List.drop_succ_cons, List.drop_zero]
                    clear hHeld3
                    have O8 := Lib.hid (O7.out.alloc (.cells #[.int .i64 v] 3))
                    have N8 : Hid (∀ j u, [Value.int .i64 v][j]? = some u → (w7.alloc (.cells #[.int .i64 v] 3)).cell? ((⟨w7.heap.size, 0, none⟩ : Addr).add j) = some u) := Lib.hid (World.news_of_block (cs := #[.int .i64 v]) (t := 3) (fr := (0, 0)) (heap_alloc_new w7 _))
                    generalize w7.alloc (.cells #[.int .i64 v] 3) = w8 at L8 B8 O8 N8 ⊢
                    go_wp2_with (at_builtin; refine wpList_append_own _ rfl _ _ 22 rfl (O + 1) 3 i0 (.int .i64 0) 1 8 Tryz.underlying22 hi hz0 hz1 hz2 rfl (by decide) _ _ _ rfl O8.out ⟨w7.heap.size, 0, none⟩ 1 1 [.int .i64 v] rfl rfl N8.out ?c2 ?c3 ?c4 ?c5 ?_)
                    case c2 => intro u hu; simp at hu; subst hu; rfl
                    case c3 => unfold maxLen; omega
                    case c4 => omega
                    case c5 => have := B8.out.lt; omega
                    intro v' w9 hown' hgrow _
                    obtain ⟨g9, cap9, rfl, hg9, hg9'⟩ := hown'.form (Nat.succ_pos _)
                    have hrow : ∀ j, sv.ownBlock = some j → O + 1 ≤ j := fun j hj => (O8.out.lt j hj).1
                    have L9 := Lib.hid (L8.out.grow H0.out hgrow (fun j hj => by have := hrow j hj; omega) hO (.slice (some ⟨g9, 0, none⟩) (k2 + 1) cap9))
                    have B9 := Lib.hid (B8.out.grown hgrow (fun j hj => by have := hrow j hj; omega))
                    have B10 := Lib.hid (B9.out.set0 (.slice (some ⟨g9, 0, none⟩) (k2 + 1) cap9))
                    have O10 : Hid ((w9.setCell ⟨O, 0, none⟩ (.slice (some ⟨g9, 0, none⟩) (k2 + 1) cap9)).ownsRow (O + 1) 3 1 (.slice (some ⟨g9, 0, none⟩) (k2 + 1) cap9) (k2 + 1) ((firsts f (k2 + 1)).map (Value.int .i64))) := Lib.hid (by
                      rw [firsts_succ, List.map_append, HV2.out]
                      exact owns_set hown' (p := ⟨O, 0, none⟩) (Nat.lt_succ_self _) _)
                    clear hown' hgrow hrow
                    obtain ⟨d0, d1, d2, e0, e1, e2⟩ := B9.out
                    go_wp2_with fail
                    go_roundw
                    case rel => exact ⟨k2 + 1, _, by go_num, by omega, L9, B10, O10⟩
                    case measure => simp [intOf]; omega
                  · obtain rfl : k2 = m := by omega
                    have hm0 : 0 < k2 := by have := HMM.out; omega
                    obtain ⟨g9, cap9, rfl, hg9, hg9'⟩ := O6.out.form hm0
                    obtain ⟨a9, c9, hv9, R9, X9⟩ := rowZ_of_owns O6.out (by omega) (fun i hi => by rw [firsts_length] at hi; rw [firsts_getD _ _ _ hi]; have := HBD.out i; exact ⟨by omega, by omega⟩)
                    obtain ⟨rfl, rfl⟩ : some ⟨g9, 0, none⟩ = a9 ∧ cap9 = c9 := by cases hv9; exact ⟨rfl, rfl⟩
                    have HP := Lib.hid (show GivesRaw (atC zs P inc) w _ _ by rw [HF.out]; exact raw_post (b := w.heap.size + 1) (w := w) L6.out.bl (Nat.le_succ _) R9 (fun y hy => by cases hy; show w.heap.size + 1 < g9; omega) t q d HMM.out HNO.out (by omega) ⟨hd0, by omega⟩)
                    obtain ⟨d0, d1, d2, e0, e1, e2⟩ := B6.out
                    obtain ⟨o0, o1, o2, p0, p1, p2⟩ := L6.out.br
                    clear hv9 R9 X9
                    go_wp2_with fail
                    exact bodyPost_ret (v := curV (some ⟨g9, 0, none⟩) k2 cap9 q d) (by simp [results, Tryz.results37, go_sem, o0, o1, o2]) rfl HP.out

set_option maxRecDepth 100000 in
set_option maxHeartbeats 1000000 in
theorem rleast_rawinf (a : Option Addr) (n cap : Nat) (zs : List Int) (P : Nat) (inc : Int) (hfew : zs.length ≤ 8192) (i : Nat) (hi' : i < zs.length) (hz : zs.getD i 0 = infV) (hj : ∀ j, j < i → ¬ zs.getD j 0 = infV) (w : World) (h : RowZ w a n cap zs) :
    Calls Tryz.prog 37 #[curV a n cap P inc] w (GivesTake zs i w) := by
  obtain ⟨i0, hi, hz0, hz1, hz2⟩ := info_parts info_int
  have hB : Below w.heap.size w ((w.alloc (.cells #[.slice a n cap, .int .i64 P, .int .i64 inc] 24)).alloc (.cells #[.slice none 0 0, .int .i64 0, .int .i64 0] 24)) := ((Below.refl _ _).alloc (Nat.le_refl _) _).alloc (by simp) _
  have L0 := Lib.hid (show Ls w a n cap P inc zs ((w.alloc (.cells #[.slice a n cap, .int .i64 P, .int .i64 inc] 24)).alloc (.cells #[.slice none 0 0, .int .i64 0, .int .i64 0] 24)) from
    ⟨hB, (Cur3.new w _ _ _ _).alloc _, h.under hB, Cur3.new2 w _ _ _ _ _⟩)
  have HL := Lib.hid h.len
  have H0 := Lib.hid h
  have hn4 : n ≤ 8192 := by have := h.len; omega
  have hin : i < n := by have := h.len; omega
  have HZ := Lib.hid (And.intro hz hj)
  have hcm := h.cm
  have hle := h.le
  have HBD := Lib.hid h.bd
  clear h hB hfew hz hj hi'
  go_enter Tryz.func37, Tryz.ntmps37
  go_wp2_with fail
  generalize (w.alloc (.cells #[.slice a n cap, .int .i64 P, .int .i64 inc] 24)).alloc (.cells #[.slice none 0 0, .int .i64 0, .int .i64 0] 24) = w0 at L0 ⊢
  go_loopw [3] (fun s3 wx => ∃ k : Nat, s3 = .int .i64 k ∧ k ≤ i ∧ Hid (Ls w a n cap P inc zs wx)) (fun s3 _ => i - (intOf s3).toNat)
  case atStart => exact ⟨0, rfl, Nat.zero_le _, L0⟩
  case round =>
    clear L0
    obtain ⟨k, rfl, hk, L0⟩ := hrel
    obtain ⟨w0, rfl⟩ : ∃ u : World, u = wr := ⟨_, rfl⟩
    obtain ⟨c0, c1, c2, f0, f1, f2⟩ := L0.out.bf
    have hkn : (k : Int) < (n : Int) := by omega
    obtain ⟨x, rfl, ck⟩ := L0.out.rf.cell k (by omega)
    obtain ⟨v, hv⟩ : ∃ v, zs.getD k 0 = v := ⟨_, rfl⟩
    rw [hv] at ck
    by_cases hlt : k < i
    · have tv : (v == 4611686018427387904) = false := by have := HZ.out.2 k hlt; rw [hv] at this; simpa using this
      clear hv
      go_wp2_with fail
      go_roundw
      case rel => exact ⟨k + 1, by go_num, by omega, L0⟩
      case measure => simp [intOf]; omega
    · obtain rfl : k = i := by omega
      obtain rfl : v = 4611686018427387904 := by rw [← hv]; exact HZ.out.1
      have hcap : (k : Int) + 1 ≤ (cap : Int) := by omega
      have hcap0 : (0 : Int) ≤ (k : Int) + 1 := by omega
      have R1 := Lib.hid ((L0.out.rf.take (k + 1) (by omega)).alloc (.cells #[] 3))
      have hbase : w.heap.size + 1 + 1 ≤ w0.heap.size := by have := L0.out.br.lt; omega
      have hl0 := L0.out.bf.lt
      have hl1 : ¬ w.heap.size = w0.heap.size := by omega
      have hl2 : ¬ w0.heap.size = w.heap.size := by omega
      have hl3 : w.heap.size < w0.heap.size + 1 := by omega
      clear hv
      go_wp2_with (at_builtin; refine wpList_append_own _ rfl _ _ 22 rfl (w.heap.size + 1 + 1) 3 i0 (.int .i64 0) 1 8 Tryz.underlying22 hi hz0 hz1 hz2 rfl (by decide) _ _ _ rfl (World.ownsRow_made w0 #[] 0 hbase (Nat.zero_le _) rfl) x (k + 1) cap ((zs.take (k + 1)).map (Value.int .i64)) rfl ?cl ?c1 ?c2 ?c3 ?c4 ?c5 ?_)
      case cl => rw [List.length_map, Nat.mul_one]; exact R1.out.len
      case c1 =>
        intro j u hj
        rw [List.getElem?_map, Option.map_eq_some_iff] at hj
        obtain ⟨z, hz, rfl⟩ := hj
        have hjn : j < (zs.take (k + 1)).length := (List.getElem?_eq_some_iff.1 hz).1
        obtain ⟨x', hx, hc⟩ := R1.out.cell j (by rw [R1.out.len] at hjn; exact hjn)
        obtain rfl : x = x' := Option.some.inj hx
        rw [show (zs.take (k + 1)).getD j 0 = z by simp [List.getD, hz]] at hc
        exact hc
      case c2 => intro u hu; simp only [List.mem_map] at hu; obtain ⟨z, _, rfl⟩ := hu; rfl
      case c3 => unfold maxLen; omega
      case c4 => omega
      case c5 => simp; omega
      intro v' w1 hown' hgrow _
      have hb1 : Below w.heap.size w w1 := (L0.out.bl.alloc L0.out.bl.size _).grown hgrow (by have := L0.out.bl.size; simp; omega) (fun j hj => by cases hj; show w.heap.size ≤ w0.heap.size; omega)
      have K1 := Lib.hid ((L0.out.br.alloc (.cells #[] 3)).grown hgrow (fun j hj => by cases hj; exact L0.out.br.lt))
      have hown2 : w1.ownsRow (w.heap.size + 1 + 1) 3 1 v' (k + 1) ((zs.take (k + 1)).map (Value.int .i64)) := by simpa using hown'
      obtain ⟨a9, c9, hv9, R9, X9⟩ := rowZ_of_owns hown2 (by omega) (fun j hj => by
        rw [List.length_take] at hj
        rw [getD_take (by omega)]
        exact HBD.out j (by have := HL.out; omega))
      subst hv9
      have HP := Lib.hid (take_post (b := w.heap.size + 1) (w := w) (zs := zs) hb1 (Nat.le_succ _) R9 (fun y hy => by have := X9 y hy; omega))
      obtain ⟨o0, o1, o2, p0, p1, p2⟩ := K1.out
      clear hown' hown2 hgrow R9 X9 hb1 c0 c1 c2 f0 f1 f2
      go_wp2_with fail
      exact bodyPost_ret (v := curV a9 (k + 1) c9 1 0) (by simp [results, Tryz.results37, go_sem, o0, o1, o2]) rfl HP.out


/-- A curve, as Least hands it back: the normal form of the values, if it is valid. -/
def GivesL (E : Nat → Option Int) (w : World) (e : Ending) (w' : World) : Prop :=
  ∃ (a : Option Addr) (n cap : Nat) (zs : List Int) (p : Nat) (inc : Int), e = .returned (curV a n cap p inc) ∧ Below w.heap.size w w' ∧ RowZ w' a n cap zs ∧ (In64 p ∧ In64 inc) ∧ (Good zs p inc → EForm zs p inc E) ∧ (¬ Good zs p inc → ¬ ECan E) ∧ ∀ x, a = some x → w.heap.size ≤ x.block

theorem rleast_e (a : Option Addr) (n cap : Nat) (zs : List Int) (P : Nat) (inc : Int) {E : Nat → Option Int} (hE : RawE zs P inc E) (w : World) (h : RowZ w a n cap zs) :
    Calls Tryz.prog 37 #[curV a n cap P inc] w (GivesL E w) := by
  rcases hE with ⟨hr, he⟩ | ⟨hf, i, hi, hz, hj, he⟩
  · refine (rleast_raw a n cap zs P inc hr w h).mono ?_
    rintro e w1 ⟨a1, n1, cap1, s, r, c, rfl, hb, hr1, hn, h2, h3, hx⟩
    obtain ⟨k1, k2⟩ := raw_form hr he hn
    exact ⟨a1, n1, cap1, _, r, c, rfl, hb, hr1, ⟨⟨by omega, by omega⟩, by omega, by omega⟩, k1, k2, hx⟩
  · refine (rleast_rawinf a n cap zs P inc hf i hi hz hj w h).mono ?_
    rintro e w1 ⟨a1, n1, cap1, rfl, hb, hr1, hx⟩
    obtain ⟨k1, k2⟩ := raw_inf hi hz hj he
    exact ⟨a1, n1, cap1, _, 1, 0, rfl, hb, hr1, ⟨⟨by omega, by omega⟩, by omega, by omega⟩, k1, k2, hx⟩

set_option maxHeartbeats 1600000 in
theorem rmade_ok (a : Option Addr) (n cap : Nat) (zs : List Int) (P : Nat) (inc : Int) {E : Nat → Option Int} (hE : RawE zs P inc E) (w : World) (h : RowZ w a n cap zs) :
    Calls Tryz.prog 39 #[curV a n cap P inc] w (GivesE E w) := by
  have hB : Below w.heap.size w ((w.alloc (.cells #[.slice a n cap, .int .i64 P, .int .i64 inc] 24)).alloc (.cells #[.slice none 0 0, .int .i64 0, .int .i64 0] 24)) :=
    ((Below.refl _ _).alloc (Nat.le_refl _) _).alloc (by simp) _
  have HBl := Lib.hid hB
  have H := Lib.hid (h.under hB)
  have HE := Lib.hid hE
  have KR := Lib.hid (Cur3.new2 w (.slice none 0 0) (.int .i64 0) (.int .i64 0) 24 (.cells #[.slice a n cap, .int .i64 P, .int .i64 inc] 24))
  clear h hE hB
  go_enter Tryz.func39, Tryz.ntmps39
  go_wp2_with fail
  refine (rleast_e a n cap zs P inc HE.out _ H.out).mono ?_
  rintro e w1 ⟨a1, n1, cap1, z1, p1, i1, rfl, hb, hr, h64, hg, hno, hx⟩
  have H64 := Lib.hid h64
  have HG := Lib.hid hg
  have HN := Lib.hid hno
  obtain ⟨w2, hw⟩ : ∃ W, w1.alloc (.cells #[.slice a1 n1 cap1, .int .i64 p1, .int .i64 i1] 24) = W := ⟨_, rfl⟩
  have hz : Below w1.heap.size w1 w2 := by rw [← hw]; exact below_box _
  have HB2 := Lib.hid ((HBl.out.trans (hb.mono HBl.out.size)).trans (hz.mono (HBl.out.trans (hb.mono HBl.out.size)).size))
  have X2 := Lib.hid (show Bx w2 w1.heap.size a1 n1 cap1 p1 i1 z1 by rw [← hw]; exact Bx.new hr)
  have K2 := Lib.hid ((KR.out.below hb).below hz)
  have hsz := hb.size
  have S2 := Lib.hid (show w.heap.size + 1 < w1.heap.size by simp at hsz; omega)
  have XF := Lib.hid (show ∀ x, a1 = some x → w.heap.size + 1 < x.block from fun x h => by have := hx x h; simp at this; omega)
  have hw2 := hw
  obtain ⟨c0, c1, c2, c3, c4, c5⟩ := X2.out.box
  clear hb hr h64 hg hno hx hw hz hsz
  go_wp2_with fail
  try rw [hw2]
  clear hw2 c0 c1 c2 c3 c4 c5
  cases hv : okC z1 p1 i1 with
  | false =>
    have HV := Lib.hid hv
    clear hv
    refine (rvalid_any a1 n1 cap1 z1 p1 i1 H64.out.1 H64.out.2 false HV.out _ X2.out.row).mono ?_
    rintro e w3 ⟨rfl, hb⟩
    have hno : ¬ ECan E := HN.out fun g => by have := (okC_iff z1 p1 i1).2 g; rw [HV.out] at this; cases this
    have HP := Lib.hid (GivesE.postNo (b := w.heap.size + 1) HB2.out (Nat.le_succ _) hb hno)
    obtain ⟨c0, c1, c2, f0, f1, f2⟩ := K2.out.below hb
    clear hb hno
    go_wp2_with fail
    exact bodyPost_ret (v := .tuple #[curV none 0 0 0 0, .int .i64 3]) (by simp [results, Tryz.results39, go_sem, c0, c1, c2]) rfl HP.out
  | true =>
    have HV := Lib.hid hv
    clear hv
    refine (rvalid_any a1 n1 cap1 z1 p1 i1 H64.out.1 H64.out.2 true HV.out _ X2.out.row).mono ?_
    rintro e w3 ⟨rfl, hb⟩
    have HP := Lib.hid (GivesE.postOf (b := w.heap.size + 1) (HB2.out.trans (hb.mono HB2.out.size)) (Nat.le_succ _) (X2.out.row.under hb) XF.out (HG.out ((okC_iff z1 p1 i1).1 HV.out)))
    have X3 := Lib.hid (X2.out.box.below hb)
    have K3 := Lib.hid (K2.out.below hb)
    obtain ⟨c0, c1, c2, f0, f1, f2⟩ := K3.out
    obtain ⟨d0, d1, d2, e0, e1, e2⟩ := X3.out
    clear hb
    go_wp2_with fail
    exact bodyPost_ret (v := .tuple #[curV a1 n1 cap1 p1 i1, .int .i64 0]) (by simp [results, Tryz.results39, go_sem, c0, c1, c2]) rfl HP.out

end Go.Proofs.YtkienpbmoilheaaGreat

namespace Go.Proofs.YtkienpbmoilheaaGreat
open Go.RowKit
set_option linter.unusedSimpArgs false
set_option linter.unusedVariables false

/-! ## A list that grows value by value -/

/-- A curve's box stands behind W, and lists the first k values of f. -/
structure Ap (W : World) (p inc : Int) (f : Nat → Int) (k : Nat) (sv : Value) (u : World) : Prop where
  below : Below W.heap.size W u
  out : Cur3 u W.heap.size sv (.int .i64 p) (.int .i64 inc)
  own : u.ownsRow (W.heap.size + 1) 3 1 sv k ((firsts f k).map (Value.int .i64))
theorem Ap.start (W : World) (p inc : Int) (f : Nat → Int) : Ap W p inc f 0 (.slice none 0 0) (W.alloc (.cells #[.slice none 0 0, .int .i64 p, .int .i64 inc] 24)) :=
  ⟨(Below.refl _ _).alloc (Nat.le_refl _) _, Cur3.new W _ _ _ _, World.ownsRow_nil _ _ _ _⟩
theorem Ap.under {W : World} {p inc : Int} {f : Nat → Int} {k : Nat} {sv : Value} {u v : World} (h : Ap W p inc f k sv u) (hb : Below u.heap.size u v) : Ap W p inc f k sv v :=
  ⟨h.below.trans (hb.mono h.below.size), h.out.below hb, owns_apart h.own (below_apart (b := W.heap.size) hb) (by omega)⟩
theorem Ap.alloc {W : World} {p inc : Int} {f : Nat → Int} {k : Nat} {sv : Value} {u : World} (h : Ap W p inc f k sv u) (o : Obj) : Ap W p inc f k sv (u.alloc o) := h.under ((Below.refl _ _).alloc (Nat.le_refl _) o)
theorem Ap.drew {W : World} {p inc : Int} {f : Nat → Int} {k : Nat} {sv : Value} {u : World} (h : Ap W p inc f k sv u) : Ap W p inc f k sv u.drew := h.under (Below.refl _ _).drew
theorem Ap.push {W : World} {p inc : Int} {f : Nat → Int} {k : Nat} {sv v' : Value} {u v : World} (h : Ap W p inc f k sv u) {z : Int} (hown : v.ownsRow (W.heap.size + 1) 3 1 v' (k + 1) ((firsts f k).map (Value.int .i64) ++ [Value.int .i64 z])) (hg : u.grownBy v sv.ownBlock) (hz : f k = z) :
    Ap W p inc f (k + 1) v' (v.setCell ⟨W.heap.size, 0, none⟩ v') ∧ Cur3 v W.heap.size sv (.int .i64 p) (.int .i64 inc) := by
  have hrow : ∀ j, sv.ownBlock = some j → W.heap.size + 1 ≤ j := fun j hj => (h.own.lt j hj).1
  have hc : Cur3 v W.heap.size sv (.int .i64 p) (.int .i64 inc) := h.out.grown hg (fun j hj => by have := hrow j hj; omega)
  refine ⟨⟨((h.below.grown hg h.below.size (fun j hj => by have := hrow j hj; omega)).setCell (p := ⟨W.heap.size, 0, none⟩) (Nat.le_refl _) v'), hc.set0 v', ?_⟩, hc⟩
  rw [firsts_succ, List.map_append, hz]
  exact owns_set hown (p := ⟨W.heap.size, 0, none⟩) (Nat.lt_succ_self _) _
theorem Ap.row {W : World} {p inc : Int} {f : Nat → Int} {k : Nat} {sv : Value} {u : World} (h : Ap W p inc f k sv u) (h1 : 1 ≤ k) (hk : k ≤ 100000) (hb : ∀ t, t < k → In64 (f t)) :
    ∃ g cap, sv = .slice (some ⟨g, 0, none⟩) k cap ∧ RowZ u (some ⟨g, 0, none⟩) k cap (firsts f k) ∧ W.heap.size < g := by
  obtain ⟨g, cap, rfl, hg, hg'⟩ := h.own.form (by omega)
  obtain ⟨a9, c9, hv9, R9, X9⟩ := rowZ_of_owns h.own (by omega) (fun i hi => by rw [firsts_length] at hi; rw [firsts_getD _ _ _ hi]; exact hb i hi)
  cases hv9
  exact ⟨g, cap, rfl, R9, by have := X9 _ rfl; show W.heap.size + 1 ≤ g; exact this⟩

/-! ## The beginning of the operations on pairs -/

def GivesPair (z1 : List Int) (p1 : Nat) (i1 : Int) (z2 : List Int) (p2 : Nat) (i2 : Int) (l c : Int) (w : World) (e : Ending) (w' : World) : Prop :=
  ∃ (a1 : Option Addr) (n1 c1 : Nat) (y1 : List Int) (q1 : Nat) (j1 : Int) (a2 : Option Addr) (n2 c2 : Nat) (y2 : List Int) (q2 : Nat) (j2 : Int), e = .returned (.tuple #[curV a1 n1 c1 q1 j1, curV a2 n2 c2 q2 j2, .int .i64 l, .int .i64 c]) ∧ Below w.heap.size w w' ∧ RowZ w' a1 n1 c1 y1 ∧ RowZ w' a2 n2 c2 y2 ∧ NormC z1 p1 i1 y1 q1 j1 ∧ NormC z2 p2 i2 y2 q2 j2 ∧ (∀ x, a1 = some x → w.heap.size ≤ x.block) ∧ ∀ x, a2 = some x → w.heap.size ≤ x.block
def GivesPairBad (w : World) (e : Ending) (w' : World) : Prop :=
  ∃ (a1 : Option Addr) (n1 c1 : Nat) (q1 j1 : Int) (a2 : Option Addr) (n2 c2 : Nat) (q2 j2 : Int), e = .returned (.tuple #[curV a1 n1 c1 q1 j1, curV a2 n2 c2 q2 j2, .int .i64 0, .int .i64 1]) ∧ Below w.heap.size w w'

theorem boxes4 (w : World) (a1 : Option Addr) (n1 cap1 : Nat) (p1 i1 : Int) (a2 : Option Addr) (n2 cap2 : Nat) (p2 i2 : Int) {W : World} (hW : (((w.alloc (.cells #[.slice a1 n1 cap1, .int .i64 p1, .int .i64 i1] 24)).alloc (.cells #[.slice a2 n2 cap2, .int .i64 p2, .int .i64 i2] 24)).alloc (.cells #[.slice none 0 0, .int .i64 0, .int .i64 0] 24)).alloc (.cells #[.slice none 0 0, .int .i64 0, .int .i64 0] 24) = W) :
    (Below w.heap.size w W ∧ W.heap.size = w.heap.size + 4) ∧ Cur3 W w.heap.size (.slice a1 n1 cap1) (.int .i64 p1) (.int .i64 i1) ∧ Cur3 W (w.heap.size + 1) (.slice a2 n2 cap2) (.int .i64 p2) (.int .i64 i2) ∧ Cur3 W (w.heap.size + 2) (.slice none 0 0) (.int .i64 0) (.int .i64 0) ∧ Cur3 W (w.heap.size + 3) (.slice none 0 0) (.int .i64 0) (.int .i64 0) := by
  subst hW
  refine ⟨⟨((((Below.refl _ _).alloc (Nat.le_refl _) _).alloc (by simp) _).alloc (by simp; omega) _).alloc (by simp; omega) _, by simp⟩, (((Cur3.new w _ _ _ _).alloc _).alloc _).alloc _, ((Cur3.new2 w _ _ _ _ _).alloc _).alloc _, ?_, ?_⟩
  · have := (Cur3.new2 (w.alloc (.cells #[.slice a1 n1 cap1, .int .i64 p1, .int .i64 i1] 24)) (.slice none 0 0) (.int .i64 0) (.int .i64 0) 24 (.cells #[.slice a2 n2 cap2, .int .i64 p2, .int .i64 i2] 24)).alloc (.cells #[.slice none 0 0, .int .i64 0, .int .i64 0] 24)
    simpa using this
  · have := Cur3.new2 ((w.alloc (.cells #[.slice a1 n1 cap1, .int .i64 p1, .int .i64 i1] 24)).alloc (.cells #[.slice a2 n2 cap2, .int .i64 p2, .int .i64 i2] 24)) (.slice none 0 0) (.int .i64 0) (.int .i64 0) 24 (.cells #[.slice none 0 0, .int .i64 0, .int .i64 0] 24)
    simpa using this

theorem pair_post {w w3 : World} {s A B : Nat} (hs : w.heap.size = s) (hB : Below s w w3) (hA : A = s + 2) (hB2 : B = s + 3) {z1 : List Int} {p1 : Nat} {i1 : Int} {z2 : List Int} {p2 : Nat} {i2 l c : Int} {b1 : Option Addr} {m1 c1 : Nat} {y1 : List Int} {q1 : Nat} {j1 : Int} {b2 : Option Addr} {m2 c2 : Nat} {y2 : List Int} {q2 : Nat} {j2 : Int}
    (h1 : RowZ w3 b1 m1 c1 y1) (h2 : RowZ w3 b2 m2 c2 y2) (x1 : ∀ x, b1 = some x → s + 4 ≤ x.block) (x2 : ∀ x, b2 = some x → s + 4 ≤ x.block) (n1 : NormC z1 p1 i1 y1 q1 j1) (n2 : NormC z2 p2 i2 y2 q2 j2) :
    GivesPair z1 p1 i1 z2 p2 i2 l c w (.returned (.tuple #[curV b1 m1 c1 q1 j1, curV b2 m2 c2 q2 j2, .int .i64 l, .int .i64 c])) (((((((w3.setCell ⟨A, 0, none⟩ (.slice b1 m1 c1)).setCell ⟨A, 1, none⟩ (.int .i64 q1)).setCell ⟨A, 2, none⟩ (.int .i64 j1)).setCell ⟨B, 0, none⟩ (.slice b2 m2 c2)).setCell ⟨B, 1, none⟩ (.int .i64 q2)).setCell ⟨B, 2, none⟩ (.int .i64 j2)).drew) := by
  subst hs hA hB2
  have k1 : ∀ b, b < w.heap.size + 4 → ∀ x, b1 = some x → 1 ≤ m1 → x.block ≠ b := fun b hb x hx _ => by have := x1 x hx; omega
  have k2 : ∀ b, b < w.heap.size + 4 → ∀ x, b2 = some x → 1 ≤ m2 → x.block ≠ b := fun b hb x hx _ => by have := x2 x hx; omega
  have e1 := fun b hb => k1 b hb
  have e2 := fun b hb => k2 b hb
  exact ⟨b1, m1, c1, y1, q1, j1, b2, m2, c2, y2, q2, j2, rfl, (below_set3 (below_set3 hB (by omega) _ _ _) (by omega) _ _ _).drew,
    ((((((h1.store (k1 _ (by omega)) _ _).store (k1 _ (by omega)) _ _).store (k1 _ (by omega)) _ _).store (k1 _ (by omega)) _ _).store (k1 _ (by omega)) _ _).store (k1 _ (by omega)) _ _).under (Below.refl _ _).drew,
    ((((((h2.store (k2 _ (by omega)) _ _).store (k2 _ (by omega)) _ _).store (k2 _ (by omega)) _ _).store (k2 _ (by omega)) _ _).store (k2 _ (by omega)) _ _).store (k2 _ (by omega)) _ _).under (Below.refl _ _).drew,
    n1, n2, fun x hx => by have := x1 x hx; omega, fun x hx => by have := x2 x hx; omega⟩

set_option maxRecDepth 100000 in
set_option maxHeartbeats 3200000 in
theorem rpair_any (a1 : Option Addr) (n1 cap1 : Nat) (z1 : List Int) (p1 : Nat) (i1 : Int) (g1 : Good z1 p1 i1) (a2 : Option Addr) (n2 cap2 : Nat) (z2 : List Int) (p2 : Nat) (i2 : Int) (g2 : Good z2 p2 i2) (L : Nat) (hL : LcmN z1 p1 i1 z2 p2 i2 L) (l c : Int) (hl : l = if 120 < L then 0 else (L : Int)) (hc : c = if 120 < L then 3 else 0) (w : World) (h1 : RowZ w a1 n1 cap1 z1) (h2 : RowZ w a2 n2 cap2 z2) :
    Calls Tryz.prog 85 #[curV a1 n1 cap1 p1 i1, curV a2 n2 cap2 p2 i2] w (GivesPair z1 p1 i1 z2 p2 i2 l c w) := by
  obtain ⟨W, hW⟩ : ∃ W, (((w.alloc (.cells #[.slice a1 n1 cap1, .int .i64 p1, .int .i64 i1] 24)).alloc (.cells #[.slice a2 n2 cap2, .int .i64 p2, .int .i64 i2] 24)).alloc (.cells #[.slice none 0 0, .int .i64 0, .int .i64 0] 24)).alloc (.cells #[.slice none 0 0, .int .i64 0, .int .i64 0] 24) = W := ⟨_, rfl⟩
  obtain ⟨⟨hB, hWs⟩, kf, kg, ka, kb⟩ := boxes4 w a1 n1 cap1 p1 i1 a2 n2 cap2 p2 i2 hW
  have HB := Lib.hid hB
  have KG := Lib.hid kg
  have KA := Lib.hid ka
  have KB := Lib.hid kb
  have HR := Lib.hid (And.intro (h1.under hB) (h2.under hB))
  have HG := Lib.hid (And.intro g1 g2)
  have HL := Lib.hid hL
  have HC := Lib.hid (And.intro hl hc)
  have HS := Lib.hid hWs
  have hW1 := hW
  obtain ⟨s, hs⟩ : ∃ s, w.heap.size = s := ⟨_, rfl⟩
  have HSS := Lib.hid hs
  obtain ⟨m0, m1, m2, m3, m4, m5⟩ := kf
  rw [hs] at m0 m1 m2 m3 m4 m5
  clear h1 h2 hB kg ka kb g1 g2 hL hW hl hc hWs
  go_enter Tryz.func85, Tryz.ntmps85
  go_wp2_with fail
  try rw [hW1]
  clear hW1 m0 m1 m2 m3 m4 m5
  refine (rnormal_ok a1 n1 cap1 z1 p1 i1 HG.out.1 _ HR.out.1).mono ?_
  rintro e v1 ⟨b1, m1, c1, y1, q1, j1, rfl, hb, hr, hn, hx⟩
  obtain ⟨w1, hw⟩ : ∃ W, v1.alloc (.cells #[.slice b1 m1 c1, .int .i64 q1, .int .i64 j1] 24) = W := ⟨_, rfl⟩
  have hz : Below W.heap.size W w1 := by rw [← hw]; exact hb.trans ((below_box _).mono hb.size)
  have KG1 := Lib.hid (KG.out.below hz)
  have KA1 := Lib.hid (KA.out.below hz)
  have KB1 := Lib.hid (KB.out.below hz)
  have HB1 := Lib.hid (HB.out.trans (hz.mono HB.out.size))
  have R2 := Lib.hid (HR.out.2.under hz)
  have X1 := Lib.hid (show Bx w1 v1.heap.size b1 m1 c1 q1 j1 y1 by rw [← hw]; exact Bx.new hr)
  have N1 := Lib.hid hn
  have F1 := Lib.hid (show ∀ x, b1 = some x → w.heap.size + 4 ≤ x.block from fun x h => by have := hx x h; have := HS.out; omega)
  have S1 := Lib.hid (show w.heap.size + 4 ≤ v1.heap.size by have := hb.size; have := HS.out; omega)
  have hw1 := hw
  obtain ⟨g0, g1, g2, g3, g4, g5⟩ := KG1.out
  clear hb hr hn hx hw hz
  rw [hs] at g0 g1 g2 g3 g4 g5
  go_wp2_with fail
  try rw [hw1]
  clear hw1 g0 g1 g2 g3 g4 g5
  refine (rnormal_ok a2 n2 cap2 z2 p2 i2 HG.out.2 _ R2.out).mono ?_
  rintro e v2 ⟨b2, m2, c2, y2, q2, j2, rfl, hb, hr, hn, hx⟩
  obtain ⟨w2, hw⟩ : ∃ W, v2.alloc (.cells #[.slice b2 m2 c2, .int .i64 q2, .int .i64 j2] 24) = W := ⟨_, rfl⟩
  have hz : Below w1.heap.size w1 w2 := by rw [← hw]; exact hb.trans ((below_box _).mono hb.size)
  have KA2 := Lib.hid (KA1.out.below hz)
  have KB2 := Lib.hid (KB1.out.below hz)
  have HB2 := Lib.hid (HB1.out.trans (hz.mono HB1.out.size))
  have X12 := Lib.hid (X1.out.under hz)
  have X2 := Lib.hid (show Bx w2 v2.heap.size b2 m2 c2 q2 j2 y2 by rw [← hw]; exact Bx.new hr)
  have N2 := Lib.hid hn
  have F2 := Lib.hid (show ∀ x, b2 = some x → w.heap.size + 4 ≤ x.block from fun x h => by have := hx x h; have := HB1.out.size; have := X1.out.box.lt; have := S1.out; omega)
  have S2 := Lib.hid (show w.heap.size + 4 ≤ v2.heap.size by have := hb.size; have := X1.out.box.lt; have := S1.out; omega)
  have hw2 := hw
  have e1 := N1.out.good HG.out.1
  have e2 := hn.good HG.out.2
  have hq1 := e1.p1
  have hq1' := e1.p2
  have hq2 := e2.p1
  have hq2' := e2.p2
  have hLL : q1 / Nat.gcd q1 q2 * q2 = L := by
    obtain ⟨u1, r1, k1, u2, r2, k2, n1, n2, e⟩ := HL.out
    obtain ⟨_, rfl, _⟩ := n1.canon HG.out.1 HG.out.1 N1.out (fun _ => rfl)
    obtain ⟨_, rfl, _⟩ := n2.canon HG.out.2 HG.out.2 hn (fun _ => rfl)
    exact e
  have HLL := Lib.hid hLL
  clear hb hr hn hx hw hz hLL e1 e2
  obtain ⟨g0, g1, g2, g3, g4, g5⟩ := X12.out.box
  obtain ⟨d0, d1, d2, d3, d4, d5⟩ := X2.out.box
  go_wp2_with fail
  try rw [hw2]
  clear hw2
  refine (lcm_at q1 q2 L HLL.out hq1 (by omega) hq2 (by omega) _).mono ?_
  rintro e w3 ⟨rfl, nd, rfl⟩
  have KA3 := Lib.hid (KA2.out.drewN nd)
  have KB3 := Lib.hid (KB2.out.drewN nd)
  have X13 := Lib.hid (X12.out.under ((Below.refl _ _).drewN nd))
  have X23 := Lib.hid (X2.out.under ((Below.refl _ _).drewN nd))
  have HB3 := Lib.hid (show Below s w (w2.drewN nd) by rw [← hs]; exact HB2.out.drewN nd)
  obtain ⟨w3, hw3⟩ : ∃ W, w2.drewN nd = W := ⟨_, rfl⟩
  rw [hw3] at KA3 KB3 X13 X23 HB3 ⊢
  obtain ⟨A, hA⟩ : ∃ A, A = s + 2 := ⟨_, rfl⟩
  obtain ⟨B, hBB⟩ : ∃ B, B = A + 1 := ⟨_, rfl⟩
  have HP := Lib.hid (show GivesPair z1 p1 i1 z2 p2 i2 l c w _ _ from pair_post (A := A) (B := B) hs HB3.out hA (by omega) X13.out.row X23.out.row (fun x h => by have := F1.out x h; omega) (fun x h => by have := F2.out x h; omega) N1.out N2.out)
  clear g0 g1 g2 g3 g4 g5 d0 d1 d2 d3 d4 d5
  obtain ⟨g0, g1, g2, g3, g4, g5⟩ := X13.out.box
  obtain ⟨d0, d1, d2, d3, d4, d5⟩ := X23.out.box
  obtain ⟨k0, k1, k2, k3, k4, k5⟩ := KA3.out
  obtain ⟨r0, r1, r2, r3, r4, r5⟩ := KB3.out
  have l1 : s + 4 ≤ v1.heap.size := by have := S1.out; omega
  have l2 : s + 4 ≤ v2.heap.size := by have := S2.out; omega
  rw [hs, ← hA] at k0 k1 k2 k3 k4 k5
  rw [hs, show s + 3 = B by omega] at r0 r1 r2 r3 r4 r5
  have t1 : ¬ A = B := by omega
  have t1' : ¬ B = A := by omega
  have t2 : ¬ A = v1.heap.size := by omega
  have t3 : ¬ B = v1.heap.size := by omega
  have t4 : ¬ A = v2.heap.size := by omega
  have t5 : ¬ B = v2.heap.size := by omega
  have t2' : ¬ v1.heap.size = A := by omega
  have t3' : ¬ v1.heap.size = B := by omega
  have t4' : ¬ v2.heap.size = A := by omega
  have t5' : ¬ v2.heap.size = B := by omega
  have HAB := Lib.hid (And.intro hA hBB)
  rw [← hA, ← hBB]
  clear hA hBB l1 l2 hw3
  by_cases h120 : 120 < L
  · have h120' : (120 : Int) < (L : Int) := by omega
    obtain ⟨el, ec⟩ := HC.out
    rw [if_pos h120] at el ec
    subst el ec
    clear h120
    go_upto_region 7 with fail
    go_region
    go_wp2_with fail
    exact bodyPost_ret (v := .tuple #[curV b1 m1 c1 q1 j1, curV b2 m2 c2 q2 j2, .int .i64 0, .int .i64 3]) (by simp [results, Tryz.results85, go_sem, k0, k1, k2, k3, k4, k5, r0, r1, r2, r3, r4, r5, t1, t1']) rfl HP.out
  · have h120' : ¬ (120 : Int) < (L : Int) := by omega
    obtain ⟨el, ec⟩ := HC.out
    rw [if_neg h120] at el ec
    subst el ec
    clear h120
    go_upto_region 8 with fail
    go_region
    go_wp2_with fail
    exact bodyPost_ret (v := .tuple #[curV b1 m1 c1 q1 j1, curV b2 m2 c2 q2 j2, .int .i64 (L : Int), .int .i64 0]) (by simp [results, Tryz.results85, go_sem, k0, k1, k2, k3, k4, k5, r0, r1, r2, r3, r4, r5, t1, t1']) rfl HP.out

end Go.Proofs.YtkienpbmoilheaaGreat

namespace Go.Proofs.YtkienpbmoilheaaGreat
open Go.RowKit
set_option linter.unusedSimpArgs false
set_option linter.unusedVariables false

theorem boxesB (w : World) (a1 : Option Addr) (n1 cap1 : Nat) (p1 i1 : Int) (a2 : Option Addr) (n2 cap2 : Nat) (p2 i2 : Int) {W : World} (hW : ((w.alloc (.cells #[.slice a1 n1 cap1, .int .i64 p1, .int .i64 i1] 24)).alloc (.cells #[.slice a2 n2 cap2, .int .i64 p2, .int .i64 i2] 24)).alloc (.cells #[.slice none 0 0, .int .i64 0, .int .i64 0] 24) = W) :
    (Below w.heap.size w W ∧ W.heap.size = w.heap.size + 3) ∧ Cur3 W w.heap.size (.slice a1 n1 cap1) (.int .i64 p1) (.int .i64 i1) ∧ Cur3 W (w.heap.size + 1) (.slice a2 n2 cap2) (.int .i64 p2) (.int .i64 i2) ∧ Cur3 W (w.heap.size + 2) (.slice none 0 0) (.int .i64 0) (.int .i64 0) := by
  subst hW
  refine ⟨⟨(((Below.refl _ _).alloc (Nat.le_refl _) _).alloc (by simp) _).alloc (by simp; omega) _, by simp⟩, ((Cur3.new w _ _ _ _).alloc _).alloc _, (Cur3.new2 w _ _ _ _ _).alloc _, ?_⟩
  have := Cur3.new2 (w.alloc (.cells #[.slice a1 n1 cap1, .int .i64 p1, .int .i64 i1] 24)) (.slice none 0 0) (.int .i64 0) (.int .i64 0) 24 (.cells #[.slice a2 n2 cap2, .int .i64 p2, .int .i64 i2] 24)
  simpa using this

end Go.Proofs.YtkienpbmoilheaaGreat
