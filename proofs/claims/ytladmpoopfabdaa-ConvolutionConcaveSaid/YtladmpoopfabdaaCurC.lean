/- Contracts: the closure that gives a curve's values; curve.Value. By the verifier's side. -/
import Derived.Test.YtladmpoopfabdaaCurV
namespace Go.Proofs.Ytladmpoopfabdaa
open Go.RowKit
set_option linter.unusedSimpArgs false

/-- The closure's variables: the curve's box in block B, the number of Values behind it, and whether the last one is infinite. -/
structure Clos (w : World) (B : Nat) (a : Option Addr) (n cap : Nat) (zs : List Int) (p : Nat) (inc : Int) : Prop where
  f0 : w.cell? ⟨B, 0, none⟩ = some (.slice a n cap)
  f1 : w.cell? ⟨B, 1, none⟩ = some (.int .i64 p)
  f2 : w.cell? ⟨B, 2, none⟩ = some (.int .i64 inc)
  num : w.cell? ⟨B + 1, 0, none⟩ = some (.int .i64 n)
  inf : w.cell? ⟨B + 2, 0, none⟩ = some (.bool (decide (zs.getD (zs.length - 1) 0 = infV)))
  row : RowZ w a n cap zs
  good : Good zs p inc

theorem Clos.lt {w : World} {B : Nat} {a : Option Addr} {n cap : Nat} {zs : List Int} {p : Nat} {inc : Int} (h : Clos w B a n cap zs p inc) : B + 2 < w.heap.size := lt_of_cell h.inf
theorem Clos.under {w w' : World} {B : Nat} {a : Option Addr} {n cap : Nat} {zs : List Int} {p : Nat} {inc : Int} (h : Clos w B a n cap zs p inc) (hb : Below w.heap.size w w') : Clos w' B a n cap zs p inc :=
  ⟨(hb.cell (lt_of_cell h.f0)).trans h.f0, (hb.cell (lt_of_cell h.f1)).trans h.f1, (hb.cell (lt_of_cell h.f2)).trans h.f2, (hb.cell (lt_of_cell h.num)).trans h.num, (hb.cell (lt_of_cell h.inf)).trans h.inf, h.row.under hb, h.good⟩
theorem Clos.drewN {w : World} {B : Nat} {a : Option Addr} {n cap : Nat} {zs : List Int} {p : Nat} {inc : Int} (h : Clos w B a n cap zs p inc) (m : Nat) : Clos (w.drewN m) B a n cap zs p inc :=
  ⟨h.f0, h.f1, h.f2, h.num, h.inf, h.row.drewN m, h.good⟩

/-- The closure as a value. -/
abbrev closV (B : Nat) : Value := .func (.func 112) #[] #[.pointer (some ⟨B + 1, 0, none⟩), .pointer (some ⟨B, 0, none⟩), .pointer (some ⟨B + 2, 0, none⟩)]

set_option maxHeartbeats 1600000 in
theorem at_any (B : Nat) (a : Option Addr) (n cap : Nat) (zs : List Int) (p : Nat) (inc : Int) (t : Nat) (ht : t ≤ 4194304) (w : World) (h : Clos w B a n cap zs p inc) :
    Calls Try.prog 112 #[.int .i64 t, .pointer (some ⟨B + 1, 0, none⟩), .pointer (some ⟨B, 0, none⟩), .pointer (some ⟨B + 2, 0, none⟩)] w (Drew (.int .i64 (atC zs p inc t)) w) := by
  have H := Lib.hid h
  obtain ⟨v, hv⟩ : ∃ v, atC zs p inc t = v := ⟨_, rfl⟩
  rw [hv]
  have HV := Lib.hid hv
  clear hv
  obtain ⟨f0, f1, f2, num, hinf, hrow, good⟩ := h
  have hlen := hrow.len
  have hfew := good.few
  have hp1 := good.p1
  have hp2 := good.p2
  have hp3 := good.p3
  have hi0 := good.i0
  have hi1 := good.i1
  have HL := Lib.hid hlen
  have hn : n ≤ 400 := by omega
  have hn1 : 1 ≤ n := by omega
  have hpn : p ≤ n := by omega
  by_cases hlt : t < n
  · obtain ⟨x, rfl, hc⟩ := hrow.cell t hlt
    have e : zs.getD t 0 = v := by rw [← HV.out, atC_lt (by omega)]
    rw [e] at hc
    clear hrow good hlen hinf e
    go_enter Try.func112, Try.ntmps112
    go_wp2_with fail
    go_ret
    exact ⟨rfl, 0, rfl⟩
  · by_cases hz : zs.getD (zs.length - 1) 0 = infV
    · have e : v = 4611686018427387904 := by rw [← HV.out, atC_inf hz (by omega) (by omega)]
      rw [decide_eq_true hz] at hinf
      subst e
      clear hrow good hlen hz
      go_enter Try.func112, Try.ntmps112
      go_wp2_with fail
      go_ret
      exact ⟨rfl, 0, rfl⟩
    · rw [decide_eq_false hz] at hinf
      have e : zs.getD (t - ((t - n) / p + 1) * p) 0 + (((t - n) / p + 1 : Nat) : Int) * inc = v := by rw [← HV.out, atC_ge hz (by omega), hlen]
      obtain ⟨i1', i2', i3'⟩ := idx_facts hp1 hpn (show n ≤ t by omega)
      obtain ⟨u, hu⟩ : ∃ u, t = n + u := ⟨t - n, by omega⟩
      obtain ⟨c, hc⟩ : ∃ c, u / p = c := ⟨_, rfl⟩
      have hcu : c ≤ u := by rw [← hc]; exact Nat.div_le_self _ _
      obtain ⟨M, hM⟩ : ∃ M, (c + 1) * p = M := ⟨_, rfl⟩
      rw [show t - n = u by omega, hc, hM] at i1' i2' i3' e
      obtain ⟨i, hi⟩ : ∃ i, t - M = i := ⟨_, rfl⟩
      rw [hi] at e i2' i3'
      obtain ⟨x, rfl, hcell⟩ := hrow.cell i i3'
      have hsm := good.small hz (show i < zs.length by omega)
      obtain ⟨z, hzz⟩ : ∃ z, zs.getD i 0 = z := ⟨_, rfl⟩
      rw [hzz] at e hcell hsm
      obtain ⟨G, hG⟩ : ∃ G, ((c : Int) + 1) * inc = G := ⟨_, rfl⟩
      have e2 : z + G = v := by rw [← e, ← hG]; rfl
      have hG0 : 0 ≤ G ∧ G ≤ 4194305 * 1073741824 := by
        rw [← hG]
        have h1 : ((c : Int) + 1) * inc ≤ 4194305 * 1073741824 := Int.mul_le_mul (by omega) hi1 hi0 (by omega)
        exact ⟨Int.mul_nonneg (by omega) hi0, h1⟩
      have hz1 := hsm.1
      have hz2 := hsm.2
      have hG1 := hG0.1
      have hG2 := hG0.2
      have r1 : (t : Int) - (n : Int) = (u : Int) := by omega
      have r2 : (u : Int) / (p : Int) = (c : Int) := by rw [← hc, Int.natCast_ediv]
      have r3 : IntKind.i64.wrap (((c : Int) + 1) * (p : Int)) = (M : Int) := by
        rw [show ((c : Int) + 1) * (p : Int) = (M : Int) by rw [← hM]; simp]
        exact IntWalk.i64_in _ ⟨by omega, by omega⟩
      have r4 : (t : Int) - (M : Int) = (i : Int) := by omega
      have r5 : IntKind.i64.wrap (i : Int) = (i : Int) := IntWalk.i64_in _ ⟨by omega, by omega⟩
      have r6 : IntKind.i64.wrap (((c : Int) + 1) * inc) = G := by rw [hG]; exact IntWalk.i64_in _ ⟨by omega, by omega⟩
      have r7 : IntKind.i64.wrap (z + G) = v := by rw [e2]; exact IntWalk.i64_in _ ⟨by omega, by omega⟩
      have r8 : (0 : Int) ≤ (i : Int) := by omega
      have r9 : (i : Int) < (n : Int) := by omega
      have r10 : ((t : Int) < (n : Int)) = False := by simp; omega
      have r11 : ¬ (p : Int) = 0 := by omega
      have r12 : (1 : Int) ≤ (p : Int) := by omega
      clear hrow good hlen hz e hc hM hi hzz hG e2 hu hsm hG0 i1' i2'
      go_enter Try.func112, Try.ntmps112
      go_wp2_with fail
      go_quiet (fail)
      go_wp2_with fail
      go_ret
      exact ⟨rfl, _, rfl⟩

/-- A closure over a curve is handed back; nothing that was there has turned. -/
def MakesClos (a : Option Addr) (n cap : Nat) (zs : List Int) (p : Nat) (inc : Int) (w : World) (e : Ending) (w' : World) : Prop :=
  ∃ B, w.heap.size ≤ B ∧ e = .returned (closV B) ∧ Below w.heap.size w w' ∧ Clos w' B a n cap zs p inc

theorem clos_made (w : World) (a : Option Addr) (n cap : Nat) (zs : List Int) (p : Nat) (inc : Int) (h : RowZ w a n cap zs) (g : Good zs p inc) (b : Bool) (hb : decide (zs.getD (zs.length - 1) 0 = infV) = b) :
    MakesClos a n cap zs p inc w (.returned (closV w.heap.size)) (((w.alloc (.cells #[.slice a n cap, .int .i64 p, .int .i64 inc] 24)).alloc (.cells #[.int .i64 n] 3)).alloc (.cells #[.bool b] 4)) := by
  have hB : Below w.heap.size w (((w.alloc (.cells #[.slice a n cap, .int .i64 p, .int .i64 inc] 24)).alloc (.cells #[.int .i64 n] 3)).alloc (.cells #[.bool b] 4)) :=
    (((Below.refl _ _).alloc (Nat.le_refl _) _).alloc (by simp) _).alloc (by simp; omega) _
  refine ⟨w.heap.size, Nat.le_refl _, rfl, hB, ?_, ?_, ?_, ?_, ?_, h.under hB, g⟩ <;> subst hb <;> go_simp

set_option maxHeartbeats 800000 in
theorem values_any (a : Option Addr) (n cap : Nat) (zs : List Int) (p : Nat) (inc : Int) (w : World) (h : RowZ w a n cap zs) (g : Good zs p inc) :
    Calls Try.prog 67 #[curV a n cap p inc] w (MakesClos a n cap zs p inc w) := by
  have hmf : ∀ (fn : Fn) (first cap : Array Value) (w : World), (Instr.makeFunc fn first cap).run Try.prog w = .ok (.func fn first cap) w := fun _ _ _ _ => rfl
  have H := Lib.hid h
  have G := Lib.hid g
  have hlen := h.len
  have hp3 := g.p3
  have hp1 := g.p1
  have hfew := g.few
  have HL := Lib.hid hlen
  have hn1 : 1 ≤ n := by omega
  have hn2 : n ≤ 400 := by omega
  obtain ⟨j, hj⟩ : ∃ j, n = j + 1 := ⟨n - 1, by omega⟩
  obtain ⟨x, rfl, hc⟩ := h.cell j (by omega)
  obtain ⟨l, hl⟩ : ∃ l, zs.getD j 0 = l := ⟨_, rfl⟩
  rw [hl] at hc
  have HX := Lib.hid (And.intro hj hl)
  have r1 : (n : Int) - 1 = (j : Int) := by omega
  have r2 : (j : Int) < (n : Int) := by omega
  have r3 : j < n := by omega
  clear hlen hp3 hp1 hfew h g hj hl
  have hc2 := hc
  have hx := lt_of_cell hc
  rw [add_block] at hx
  have HC := Lib.hid (And.intro hc hx)
  have ce : ∀ (o o' : Obj), ((w.alloc o).alloc o').cell? (x.add j) = some (.int .i64 l) := fun o o' =>
    (((Below.refl w.heap.size w).alloc (Nat.le_refl _) o).alloc (by simp) o').cell (by rw [add_block]; exact HC.out.2) |>.trans HC.out.1
  clear hc hc2 hx
  cases hb : decide (l = infV) with
  | true =>
    have hb' : (l == 4611686018427387904) = true := by simpa using hb
    have HB := Lib.hid hb
    clear hb
    go_enter Try.func67, Try.ntmps67
    go_wp2_with fail
    go_ret
    exact clos_made w (some x) n cap zs p inc H.out G.out true (by rw [HL.out, HX.out.1, Nat.add_sub_cancel, HX.out.2]; exact HB.out)
  | false =>
    have hb' : (l == 4611686018427387904) = false := by simpa using hb
    have HB := Lib.hid hb
    clear hb
    go_enter Try.func67, Try.ntmps67
    go_wp2_with fail
    go_ret
    exact clos_made w (some x) n cap zs p inc H.out G.out false (by rw [HL.out, HX.out.1, Nat.add_sub_cancel, HX.out.2]; exact HB.out)

/-- A number and an error's number are handed back; nothing that was there has turned. -/
def Pair (v e : Int) (w : World) (en : Ending) (w' : World) : Prop := en = .returned (.tuple #[.int .i64 v, .int .i64 e]) ∧ Below w.heap.size w w'

set_option maxHeartbeats 800000 in
theorem value_bad (a : Option Addr) (n cap : Nat) (zs : List Int) (p inc : Int) (hp : In64 p) (hi : In64 inc) (hb : okC zs p inc = false) (t : Int) (w : World) (h : RowZ w a n cap zs) :
    Calls Try.prog 31 #[curV a n cap p inc, .int .i64 t] w (Pair 0 1 w) := by
  have H := Lib.hid (h.alloc (.cells #[.slice a n cap, .int .i64 p, .int .i64 inc] 24))
  have HB := Lib.hid hb
  clear h hb
  go_enter Try.func31, Try.ntmps31
  go_wp2_with fail
  refine (valid_any a n cap zs p inc hp hi false HB.out _ H.out).mono ?_
  rintro e w1 ⟨rfl, hb⟩
  have HB1 := Lib.hid (((Below.refl _ _).alloc (Nat.le_refl _) _).trans (hb.mono (by simp)))
  clear hb
  go_wp2_with fail
  go_ret2
  exact ⟨rfl, HB1.out⟩

set_option maxHeartbeats 800000 in
theorem value_range (a : Option Addr) (n cap : Nat) (zs : List Int) (p : Nat) (inc : Int) (g : Good zs p inc) (t : Int) (ht : t < 0 ∨ 1048576 < t) (w : World) (h : RowZ w a n cap zs) :
    Calls Try.prog 31 #[curV a n cap p inc, .int .i64 t] w (Pair 0 2 w) := by
  have H := Lib.hid (h.alloc (.cells #[.slice a n cap, .int .i64 p, .int .i64 inc] 24))
  have HB := Lib.hid ((okC_iff zs p inc).2 g)
  have a1 := g.p2; have a2 := g.i0; have a3 := g.i1
  clear h g
  rcases ht with ht | ht <;>
  · go_enter Try.func31, Try.ntmps31
    go_wp2_with fail
    refine (valid_any a n cap zs p inc ⟨by omega, by omega⟩ ⟨by omega, by omega⟩ true HB.out _ H.out).mono ?_
    rintro e w1 ⟨rfl, hb⟩
    have HB1 := Lib.hid (((Below.refl _ _).alloc (Nat.le_refl _) _).trans (hb.mono (by simp)))
    clear hb
    go_wp2_with fail
    go_ret2
    exact ⟨rfl, HB1.out⟩

set_option maxHeartbeats 1600000 in
theorem value_ok (a : Option Addr) (n cap : Nat) (zs : List Int) (p : Nat) (inc : Int) (g : Good zs p inc) (t : Nat) (ht : t ≤ 1048576) (w : World) (h : RowZ w a n cap zs) :
    Calls Try.prog 31 #[curV a n cap p inc, .int .i64 t] w (Pair (atC zs p inc t) 0 w) := by
  have H := Lib.hid (h.alloc (.cells #[.slice a n cap, .int .i64 p, .int .i64 inc] 24))
  have HB := Lib.hid ((okC_iff zs p inc).2 g)
  have G := Lib.hid g
  have a1 := g.p2; have a2 := g.i0; have a3 := g.i1
  clear h g
  go_enter Try.func31, Try.ntmps31
  go_wp2_with fail
  refine (valid_any a n cap zs p inc ⟨by omega, by omega⟩ ⟨by omega, by omega⟩ true HB.out _ H.out).mono ?_
  rintro e w1 ⟨rfl, hb⟩
  have HB1 := Lib.hid (((Below.refl _ _).alloc (Nat.le_refl _) (.cells #[.slice a n cap, .int .i64 p, .int .i64 inc] 24)).trans (hb.mono (by simp)))
  have H1 := Lib.hid (H.out.under hb)
  obtain ⟨hc, hf⟩ := bcell hb
  have hz : w.heap.size < w1.heap.size := by have := hb.size; simp at this; omega
  clear hb
  go_wp2_with fail
  refine (values_any a n cap zs p inc _ H1.out G.out).mono ?_
  rintro e w2 ⟨B, hB, rfl, hb2, hcl⟩
  have HB2 := Lib.hid (HB1.out.trans (hb2.mono HB1.out.size))
  have HC := Lib.hid hcl
  clear hb2 hcl hc hf
  go_wp2_with fail
  refine (at_any B a n cap zs p inc t (by omega) _ HC.out).mono ?_
  rintro e w3 ⟨rfl, m, rfl⟩
  go_wp2_with fail
  go_ret2
  exact ⟨rfl, HB2.out.drewN _⟩

end Go.Proofs.Ytladmpoopfabdaa
