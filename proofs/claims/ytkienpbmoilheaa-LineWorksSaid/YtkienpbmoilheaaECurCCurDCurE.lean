/- Contracts: the closure that gives a curve's values; curve.Value. By the verifier's side. -/
import Derived.Test.YtkienpbmoilheaaECurBCurV
import Derived.Test.YtkienpbmoilheaaECurAGrow
import Derived.WalkSpells
import Derived.Lib.LazyBuf
import Derived.Deep.LoopGhost
namespace Go.Proofs.Ytkienpbmoilheaa
open Go.RowKit
set_option linter.unusedSimpArgs false

/-- The closure's variables: the curve's box in block B, the number of Values behind it, and whether the last one is infinite. -/
structure Clos (w : World) (B : Nat) (a : Option Addr) (n cap : Nat) (zs : List Int) (p : Nat) (inc : Int) : Prop where
  f0 : w.cell? ⟨B, 0, none⟩ = some (.slice a n cap)
  f1 : w.cell? ⟨B, 1, none⟩ = some (.int .i64 p)
  f2 : w.cell? ⟨B, 2, none⟩ = some (.int .i64 inc)
  num : w.cell? ⟨B + 1, 0, none⟩ = some (.int .i64 n)
  inf : w.cell? ⟨B + 2, 0, none⟩ = some (.bool (decide (zs.getD (zs.length - 1) 0 = infV)))
  row : RowZ w a n cap zs
  good : Good zs p inc

theorem Clos.lt {w : World} {B : Nat} {a : Option Addr} {n cap : Nat} {zs : List Int} {p : Nat} {inc : Int} (h : Clos w B a n cap zs p inc) : B + 2 < w.heap.size := lt_of_cell h.inf
theorem Clos.under {w w' : World} {B : Nat} {a : Option Addr} {n cap : Nat} {zs : List Int} {p : Nat} {inc : Int} (h : Clos w B a n cap zs p inc) (hb : Below w.heap.size w w') : Clos w' B a n cap zs p inc :=
  ⟨(hb.cell (lt_of_cell h.f0)).trans h.f0, (hb.cell (lt_of_cell h.f1)).trans h.f1, (hb.cell (lt_of_cell h.f2)).trans h.f2, (hb.cell (lt_of_cell h.num)).trans h.num, (hb.cell (lt_of_cell h.inf)).trans h.inf, h.row.under hb, h.good⟩
theorem Clos.drewN {w : World} {B : Nat} {a : Option Addr} {n cap : Nat} {zs : List Int} {p : Nat} {inc : Int} (h : Clos w B a n cap zs p inc) (m : Nat) : Clos (w.drewN m) B a n cap zs p inc :=
  ⟨h.f0, h.f1, h.f2, h.num, h.inf, h.row.drewN m, h.good⟩

/-- The closure as a value. -/
abbrev closV (B : Nat) : Value := .func (.func 280) #[] #[.pointer (some ⟨B + 1, 0, none⟩), .pointer (some ⟨B, 0, none⟩), .pointer (some ⟨B + 2, 0, none⟩)]

set_option maxHeartbeats 1600000 in
theorem at_any (B : Nat) (a : Option Addr) (n cap : Nat) (zs : List Int) (p : Nat) (inc : Int) (t : Nat) (ht : t ≤ 4194304) (w : World) (h : Clos w B a n cap zs p inc) :
    Calls Try.prog 280 #[.int .i64 t, .pointer (some ⟨B + 1, 0, none⟩), .pointer (some ⟨B, 0, none⟩), .pointer (some ⟨B + 2, 0, none⟩)] w (Drew (.int .i64 (atC zs p inc t)) w) := by
  have H := Lib.hid h
  obtain ⟨v, hv⟩ : ∃ v, atC zs p inc t = v := ⟨_, rfl⟩
  rw [hv]
  have HV := Lib.hid hv
  clear hv
  obtain ⟨f0, f1, f2, num, hinf, hrow, good⟩ := h
  have hlen := hrow.len
  have hfew := good.few
  have hp1 := good.p1
  have hp2 := good.p2
  have hp3 := good.p3
  have hi0 := good.i0
  have hi1 := good.i1
  have HL := Lib.hid hlen
  have hn : n ≤ 400 := by omega
  have hn1 : 1 ≤ n := by omega
  have hpn : p ≤ n := by omega
  by_cases hlt : t < n
  · obtain ⟨x, rfl, hc⟩ := hrow.cell t hlt
    have e : zs.getD t 0 = v := by rw [← HV.out, atC_lt (by omega)]
    rw [e] at hc
    clear hrow good hlen hinf e
    go_enter Try.func280, Try.ntmps280
    go_wp2_with fail
    go_ret
    exact ⟨rfl, 0, rfl⟩
  · by_cases hz : zs.getD (zs.length - 1) 0 = infV
    · have e : v = 4611686018427387904 := by rw [← HV.out, atC_inf hz (by omega) (by omega)]
      rw [decide_eq_true hz] at hinf
      subst e
      clear hrow good hlen hz
      go_enter Try.func280, Try.ntmps280
      go_wp2_with fail
      go_ret
      exact ⟨rfl, 0, rfl⟩
    · rw [decide_eq_false hz] at hinf
      have e : zs.getD (t - ((t - n) / p + 1) * p) 0 + (((t - n) / p + 1 : Nat) : Int) * inc = v := by rw [← HV.out, atC_ge hz (by omega), hlen]
      obtain ⟨i1', i2', i3'⟩ := idx_facts hp1 hpn (show n ≤ t by omega)
      obtain ⟨u, hu⟩ : ∃ u, t = n + u := ⟨t - n, by omega⟩
      obtain ⟨c, hc⟩ : ∃ c, u / p = c := ⟨_, rfl⟩
      have hcu : c ≤ u := by rw [← hc]; exact Nat.div_le_self _ _
      obtain ⟨M, hM⟩ : ∃ M, (c + 1) * p = M := ⟨_, rfl⟩
      rw [show t - n = u by omega, hc, hM] at i1' i2' i3' e
      obtain ⟨i, hi⟩ : ∃ i, t - M = i := ⟨_, rfl⟩
      rw [hi] at e i2' i3'
      obtain ⟨x, rfl, hcell⟩ := hrow.cell i i3'
      have hsm := good.small hz (show i < zs.length by omega)
      obtain ⟨z, hzz⟩ : ∃ z, zs.getD i 0 = z := ⟨_, rfl⟩
      rw [hzz] at e hcell hsm
      obtain ⟨G, hG⟩ : ∃ G, ((c : Int) + 1) * inc = G := ⟨_, rfl⟩
      have e2 : z + G = v := by rw [← e, ← hG]; rfl
      have hG0 : 0 ≤ G ∧ G ≤ 4194305 * 1073741824 := by
        rw [← hG]
        have h1 : ((c : Int) + 1) * inc ≤ 4194305 * 1073741824 := Int.mul_le_mul (by omega) hi1 hi0 (by omega)
        exact ⟨Int.mul_nonneg (by omega) hi0, h1⟩
      have hz1 := hsm.1
      have hz2 := hsm.2
      have hG1 := hG0.1
      have hG2 := hG0.2
      have r1 : (t : Int) - (n : Int) = (u : Int) := by omega
      have r2 : (u : Int) / (p : Int) = (c : Int) := by rw [← hc, Int.natCast_ediv]
      have r3 : IntKind.i64.wrap (((c : Int) + 1) * (p : Int)) = (M : Int) := by
        rw [show ((c : Int) + 1) * (p : Int) = (M : Int) by rw [← hM]; simp]
        exact IntWalk.i64_in _ ⟨by omega, by omega⟩
      have r4 : (t : Int) - (M : Int) = (i : Int) := by omega
      have r5 : IntKind.i64.wrap (i : Int) = (i : Int) := IntWalk.i64_in _ ⟨by omega, by omega⟩
      have r6 : IntKind.i64.wrap (((c : Int) + 1) * inc) = G := by rw [hG]; exact IntWalk.i64_in _ ⟨by omega, by omega⟩
      have r7 : IntKind.i64.wrap (z + G) = v := by rw [e2]; exact IntWalk.i64_in _ ⟨by omega, by omega⟩
      have r8 : (0 : Int) ≤ (i : Int) := by omega
      have r9 : (i : Int) < (n : Int) := by omega
      have r10 : ((t : Int) < (n : Int)) = False := by simp; omega
      have r11 : ¬ (p : Int) = 0 := by omega
      have r12 : (1 : Int) ≤ (p : Int) := by omega
      clear hrow good hlen hz e hc hM hi hzz hG e2 hu hsm hG0 i1' i2'
      go_enter Try.func280, Try.ntmps280
      go_wp2_with fail
      go_quiet (fail)
      go_wp2_with fail
      go_ret
      exact ⟨rfl, _, rfl⟩

/-- A closure over a curve is handed back; nothing that was there has turned. -/
def MakesClos (a : Option Addr) (n cap : Nat) (zs : List Int) (p : Nat) (inc : Int) (w : World) (e : Ending) (w' : World) : Prop :=
  ∃ B, w.heap.size ≤ B ∧ e = .returned (closV B) ∧ Below w.heap.size w w' ∧ Clos w' B a n cap zs p inc

theorem clos_made (w : World) (a : Option Addr) (n cap : Nat) (zs : List Int) (p : Nat) (inc : Int) (h : RowZ w a n cap zs) (g : Good zs p inc) (b : Bool) (hb : decide (zs.getD (zs.length - 1) 0 = infV) = b) :
    MakesClos a n cap zs p inc w (.returned (closV w.heap.size)) (((w.alloc (.cells #[.slice a n cap, .int .i64 p, .int .i64 inc] 24)).alloc (.cells #[.int .i64 n] 3)).alloc (.cells #[.bool b] 4)) := by
  have hB : Below w.heap.size w (((w.alloc (.cells #[.slice a n cap, .int .i64 p, .int .i64 inc] 24)).alloc (.cells #[.int .i64 n] 3)).alloc (.cells #[.bool b] 4)) :=
    (((Below.refl _ _).alloc (Nat.le_refl _) _).alloc (by simp) _).alloc (by simp; omega) _
  refine ⟨w.heap.size, Nat.le_refl _, rfl, hB, ?_, ?_, ?_, ?_, ?_, h.under hB, g⟩ <;> subst hb <;> go_simp

set_option maxHeartbeats 800000 in
theorem values_any (a : Option Addr) (n cap : Nat) (zs : List Int) (p : Nat) (inc : Int) (w : World) (h : RowZ w a n cap zs) (g : Good zs p inc) :
    Calls Try.prog 212 #[curV a n cap p inc] w (MakesClos a n cap zs p inc w) := by
  have hmf : ∀ (fn : Fn) (first cap : Array Value) (w : World), (Instr.makeFunc fn first cap).run Try.prog w = .ok (.func fn first cap) w := fun _ _ _ _ => rfl
  have H := Lib.hid h
  have G := Lib.hid g
  have hlen := h.len
  have hp3 := g.p3
  have hp1 := g.p1
  have hfew := g.few
  have HL := Lib.hid hlen
  have hn1 : 1 ≤ n := by omega
  have hn2 : n ≤ 400 := by omega
  obtain ⟨j, hj⟩ : ∃ j, n = j + 1 := ⟨n - 1, by omega⟩
  obtain ⟨x, rfl, hc⟩ := h.cell j (by omega)
  obtain ⟨l, hl⟩ : ∃ l, zs.getD j 0 = l := ⟨_, rfl⟩
  rw [hl] at hc
  have HX := Lib.hid (And.intro hj hl)
  have r1 : (n : Int) - 1 = (j : Int) := by omega
  have r2 : (j : Int) < (n : Int) := by omega
  have r3 : j < n := by omega
  clear hlen hp3 hp1 hfew h g hj hl
  have hc2 := hc
  have hx := lt_of_cell hc
  rw [add_block] at hx
  have HC := Lib.hid (And.intro hc hx)
  have ce : ∀ (o o' : Obj), ((w.alloc o).alloc o').cell? (x.add j) = some (.int .i64 l) := fun o o' =>
    (((Below.refl w.heap.size w).alloc (Nat.le_refl _) o).alloc (by simp) o').cell (by rw [add_block]; exact HC.out.2) |>.trans HC.out.1
  clear hc hc2 hx
  cases hb : decide (l = infV) with
  | true =>
    have hb' : (l == 4611686018427387904) = true := by simpa using hb
    have HB := Lib.hid hb
    clear hb
    go_enter Try.func212, Try.ntmps212
    go_wp2_with fail
    go_ret
    exact clos_made w (some x) n cap zs p inc H.out G.out true (by rw [HL.out, HX.out.1, Nat.add_sub_cancel, HX.out.2]; exact HB.out)
  | false =>
    have hb' : (l == 4611686018427387904) = false := by simpa using hb
    have HB := Lib.hid hb
    clear hb
    go_enter Try.func212, Try.ntmps212
    go_wp2_with fail
    go_ret
    exact clos_made w (some x) n cap zs p inc H.out G.out false (by rw [HL.out, HX.out.1, Nat.add_sub_cancel, HX.out.2]; exact HB.out)

end Go.Proofs.Ytkienpbmoilheaa

namespace Go.Proofs.Ytkienpbmoilheaa
open Go.RowKit
set_option linter.unusedSimpArgs false

/-- The first index of a number, or -1. -/
def FirstAt (zs : List Int) (v : Int) (w : World) (e : Ending) (w' : World) : Prop :=
  (e = .returned (.int .i64 (-1)) ∧ w = w' ∧ ∀ i, i < zs.length → ¬ zs.getD i 0 = v) ∨
  ∃ i : Nat, e = .returned (.int .i64 i) ∧ w = w' ∧ i < zs.length ∧ zs.getD i 0 = v ∧ ∀ j, j < i → ¬ zs.getD j 0 = v

set_option maxHeartbeats 800000 in
theorem index_any (a : Option Addr) (n cap : Nat) (zs : List Int) (v : Int) (w : World) (h : RowZ w a n cap zs) :
    Calls Try.prog 283 #[.slice a n cap, .int .i64 v] w (FirstAt zs v w) := by
  have H := Lib.hid h
  have hn : n ≤ 140737488355328 := h.sm
  clear h
  go_enter Try.func283, Try.ntmps283
  go_wp2
  go_loop [8] (fun vi => ∃ k : Nat, vi = .int .i64 k ∧ k ≤ n ∧ Hid (∀ i, i < k → ¬ zs.getD i 0 = v)) (fun vi => n - (intOf vi).toNat)
  case atStart => exact ⟨0, rfl, Nat.zero_le _, fun i hi => absurd hi (Nat.not_lt_zero _)⟩
  case round =>
    obtain ⟨k, rfl, hk, hall⟩ := hrel
    by_cases hlt : k < n
    · obtain ⟨x, rfl, hc⟩ := H.out.cell k hlt
      obtain ⟨z, hz⟩ : ∃ z, zs.getD k 0 = z := ⟨_, rfl⟩
      rw [hz] at hc
      have HZ := Lib.hid hz
      clear hz
      by_cases he : v = z
      · have he' : (v == z) = true := by simpa using he
        have HE := Lib.hid he
        clear he
        go_wp2_with fail
        go_ret
        exact .inr ⟨k, rfl, rfl, by rw [H.out.len]; exact hlt, HZ.out.trans HE.out.symm, hall.out⟩
      · have he' : (v == z) = false := by simpa using he
        have HE := Lib.hid he
        clear he
        go_wp2_with fail
        go_round
        case rel =>
          refine ⟨k + 1, by go_num, by omega, fun i hi => ?_⟩
          by_cases hik : i = k
          · subst hik; intro hx; exact HE.out (hx.symm.trans HZ.out)
          · exact hall.out i (by omega)
        case measure => simp [intOf]; omega
    · obtain rfl : k = n := by omega
      go_wp2_with fail
      go_ret
      exact .inl ⟨rfl, rfl, fun i hi => hall.out i (by rw [H.out.len] at hi; exact hi)⟩

/-- A copy in memory of the call's own. -/
def Copied (n : Nat) (zs : List Int) (w : World) (e : Ending) (w' : World) : Prop :=
  ∃ a cap, e = .returned (.slice a n cap) ∧ Below w.heap.size w w' ∧ RowZ w' a n cap zs ∧ ∀ x, a = some x → w.heap.size ≤ x.block

set_option maxHeartbeats 800000 in
theorem clone_any (x : Addr) (n cap : Nat) (zs : List Int) (w : World) (h : RowZ w (some x) n cap zs) (hn : n ≤ 1000000) :
    Calls Try.prog 242 #[.slice (some x) n cap] w (Copied n zs w) := by
  obtain ⟨i0, hi, hz0, hz1, hz2⟩ := info_parts info_int
  have H := Lib.hid h
  clear h
  have hnil := fun (w : World) => Lib.run_eql_slice_nil (P := Try.prog) w 22 3 (some x) n cap 0 0 Try.underlying22
  go_enter Try.func242, Try.ntmps242
  go_wp2_with (at_builtin; refine wpList_append_own _ rfl _ _ 22 rfl w.heap.size 3 i0 (.int .i64 0) 1 8 Try.underlying22 hi hz0 hz1 hz2 rfl (by decide) _ _ _ rfl (World.ownsRow_made w #[] 0 (Nat.le_refl _) (Nat.zero_le _) rfl) x n cap (zs.map (Value.int .i64)) rfl ?cl ?c1 ?c2 ?c3 ?c4 ?c5 ?_)
  case cl => rw [List.length_map, Nat.mul_one]; exact H.out.len
  case c1 =>
    intro j u hj
    rw [List.getElem?_map, Option.map_eq_some_iff] at hj
    obtain ⟨z, hz, rfl⟩ := hj
    have hjn : j < zs.length := (List.getElem?_eq_some_iff.1 hz).1
    obtain ⟨x', hx, hc⟩ := (H.out.alloc _).cell j (by rw [H.out.len] at hjn; exact hjn)
    obtain rfl : x = x' := Option.some.inj hx
    rw [show zs.getD j 0 = z by simp [List.getD, hz]] at hc
    exact hc
  case c2 => intro u hu; simp at hu; obtain ⟨z, _, rfl⟩ := hu; rfl
  case c3 => unfold maxLen; omega
  case c4 => omega
  case c5 => simp
  · intro v' w1 hown' hgrow _
    have HO := Lib.hid hown'
    have HG := Lib.hid hgrow
    clear hown' hgrow
    go_wp2_with fail
    go_ret
    have ho := HO.out
    obtain ⟨a, c, rfl, hr, hx⟩ := rowZ_of_owns ho (by omega) (fun i hi => H.out.bd i (by rw [H.out.len] at hi; exact hi))
    exact ⟨a, c, rfl, ((Below.refl _ _).alloc (Nat.le_refl _) _).grown HG.out (by simp) (fun j hj => by cases hj; exact Nat.le_refl _), hr, hx⟩

theorem at_i (B : Nat) (a : Option Addr) (n cap : Nat) (zs : List Int) (p : Nat) (inc : Int) (ti : Int) (t : Nat) (hti : ti = t) (ht : t ≤ 4194304) (v : Int) (hv : atC zs p inc t = v) (w : World) (h : Clos w B a n cap zs p inc) :
    Calls Try.prog 280 #[.int .i64 ti, .pointer (some ⟨B + 1, 0, none⟩), .pointer (some ⟨B, 0, none⟩), .pointer (some ⟨B + 2, 0, none⟩)] w (Drew (.int .i64 v) w) := by
  subst hti hv; exact at_any B a n cap zs p inc t ht w h

theorem Clos.dr {w w' : World} {B : Nat} {a : Option Addr} {n cap : Nat} {zs : List Int} {p : Nat} {inc : Int} (h : Clos w B a n cap zs p inc) (hd : ∃ m, w' = w.drewN m) : Clos w' B a n cap zs p inc := by
  obtain ⟨m, rfl⟩ := hd; exact h.drewN m
theorem dr_trans {u v w : World} (h : ∃ m, v = u.drewN m) (k : ∃ m, w = v.drewN m) : ∃ m, w = u.drewN m := by
  obtain ⟨m, rfl⟩ := h; obtain ⟨q, rfl⟩ := k; exact ⟨m + q, World.drewN_drewN _ _ _⟩

/-- What the search for the least period hands back. -/
def LeastP (f : Nat → Int) (s P : Nat) (w : World) (e : Ending) (w' : World) : Prop :=
  ∃ r : Nat, 1 ≤ r ∧ r ≤ P ∧ (r < P → GrowsAt f s P r) ∧ (∀ q, 1 ≤ q → q < r → ¬ GrowsAt f s P q) ∧ e = .returned (.int .i64 r) ∧ ∃ m, w' = w.drewN m

set_option maxHeartbeats 1600000 in
theorem leastPeriod_any (B : Nat) (a : Option Addr) (n cap : Nat) (zs : List Int) (P : Nat) (inc : Int) (s : Nat) (hs : s + P = n) (hf : ¬ zs.getD (zs.length - 1) 0 = infV) (w : World) (h : Clos w B a n cap zs P inc) :
    Calls Try.prog 284 #[closV B, .int .i64 s, .int .i64 P] w (LeastP (atC zs P inc) s P w) := by
  have H := Lib.hid h
  have G := Lib.hid h.good
  have HF := Lib.hid hf
  have hP1 := h.good.p1
  have hP2 := h.good.p2
  have hn : s + P ≤ 400 := by have := h.good.few; have := h.row.len; omega
  obtain ⟨F, hFe⟩ : ∃ F, atC zs P inc = F := ⟨_, rfl⟩
  rw [hFe]
  have HE := Lib.hid hFe
  have HBD : Hid (∀ t : Nat, 0 ≤ F t ∧ F t ≤ 1073741824 * ((t : Int) + 1)) := Lib.hid (by rw [← hFe]; exact G.out.bd HF.out)
  clear h hs hf hFe
  go_enter Try.func284, Try.ntmps284
  go_wp2
  go_step3
  go_wp2
  go_step3
  go_wp2
  go_loopg [7] (P - 1) (fun g s7 wx => ∃ q : Nat, s7 = .int .i64 q ∧ q + g = P ∧ 1 ≤ q ∧ Hid (∀ r, 1 ≤ r → r < q → ¬ GrowsAt F s P r) ∧ Hid (∃ m, wx = w.drewN m))
  case atStart => exact ⟨1, rfl, by omega, Nat.le_refl _, fun r h1 h2 => by omega, 0, rfl⟩
  case round =>
    obtain ⟨q, rfl, hq, hq1, hno, hdr⟩ := hrel
    obtain ⟨w0, rfl⟩ : ∃ u : World, u = wr := ⟨_, rfl⟩
    cases gk with
    | zero =>
      have hqP : ¬ (q : Int) < (P : Int) := by omega
      have HQ : Hid (q = P) := Lib.hid (by omega)
      clear hq
      go_wp2_with fail
      try rw [Exit.noGoto_ret]
      go_ret
      exact ⟨P, hP1, Nat.le_refl _, fun hx => absurd hx (Nat.lt_irrefl _), by have := hno.out; rw [HQ.out] at this; exact this, rfl, hdr.out⟩
    | succ g =>
      have hqP : (q : Int) < (P : Int) := by omega
      have hqg : q + 1 + g = P := by omega
      clear hq
      have HQ := Lib.hid hqg
      have hqn : q < P := by omega
      clear hqg
      obtain ⟨v1, hv1⟩ : ∃ v, F (s + q) = v := ⟨_, rfl⟩
      obtain ⟨v2, hv2⟩ : ∃ v, F s = v := ⟨_, rfl⟩
      have b1 := HBD.out (s + q)
      have b2 := HBD.out s
      rw [hv1] at b1
      rw [hv2] at b2
      have b11 := b1.1
      have b12 : v1 ≤ 1073741824 * 1000 := by omega
      have b21 := b2.1
      have b22 : v2 ≤ 1073741824 * 1000 := by omega
      have HV := Lib.hid (And.intro hv1 hv2)
      clear hv1 hv2 b1 b2
      go_wp2_with fail
      refine (at_i B a n cap zs P inc _ (s + q) (by omega) (by omega) v1 (by rw [HE.out]; exact HV.out.1) _ (H.out.dr hdr.out)).mono ?_
      rintro e w1 ⟨rfl, hd1⟩
      have D1 := Lib.hid (dr_trans hdr.out hd1)
      clear hd1
      go_wp2_with fail
      refine (at_i B a n cap zs P inc _ s rfl (by omega) v2 (by rw [HE.out]; exact HV.out.2) _ (H.out.dr D1.out)).mono ?_
      rintro e w2 ⟨rfl, hd2⟩
      have D2 := Lib.hid (dr_trans D1.out hd2)
      clear hd2
      go_wp2_with fail
      go_loopg [9] (P - 1) (fun g s9 wx => ∃ t : Nat, s9 = .int .i64 t ∧ t + g = s + P ∧ s + 1 ≤ t ∧ Hid (∀ u, s + 1 ≤ u → u < t → F (u + q) - F u = F (s + q) - F s) ∧ Hid (∃ m, wx = w.drewN m))
      case atStart => exact ⟨s + 1, by go_num, by omega, Nat.le_refl _, fun u h1 h2 => by omega, D2.out⟩
      case round =>
        obtain ⟨t, rfl, ht, ht1, hok, hdt⟩ := hrel
        obtain ⟨w3, rfl⟩ : ∃ u : World, u = wr := ⟨_, rfl⟩
        cases gk with
        | zero =>
          have htP : ¬ (t : Int) < (s : Int) + (P : Int) := by omega
          have HT : Hid (t = s + P) := Lib.hid (by omega)
          clear ht
          go_wp2_with fail
          try rw [Exit.noGoto_ret]
          go_ret
          exact ⟨q, hq1, by omega, fun _ u h1 h2 => hok.out u h1 (by rw [HT.out]; exact h2), hno.out, rfl, hdt.out⟩
        | succ g2 =>
          have htP : (t : Int) < (s : Int) + (P : Int) := by omega
          have htg : t + 1 + g2 = s + P := by omega
          have htn : t < s + P := by omega
          clear ht
          have HT := Lib.hid htg
          clear htg
          obtain ⟨v3, hv3⟩ : ∃ v, F (t + q) = v := ⟨_, rfl⟩
          obtain ⟨v4, hv4⟩ : ∃ v, F t = v := ⟨_, rfl⟩
          have b3 := HBD.out (t + q)
          have b4 := HBD.out t
          rw [hv3] at b3
          rw [hv4] at b4
          have b31 := b3.1
          have b32 : v3 ≤ 1073741824 * 1000 := by omega
          have b41 := b4.1
          have b42 : v4 ≤ 1073741824 * 1000 := by omega
          have HV3 := Lib.hid (And.intro hv3 hv4)
          clear hv3 hv4 b3 b4
          by_cases hd : v3 - v4 = v1 - v2
          · have hd' : (v3 - v4 != v1 - v2) = false := by simpa using hd
            have HD := Lib.hid hd
            clear hd
            go_wp2_with fail
            refine (at_i B a n cap zs P inc _ (t + q) (by omega) (by omega) v3 (by rw [HE.out]; exact HV3.out.1) _ (H.out.dr hdt.out)).mono ?_
            rintro e w4 ⟨rfl, hd1⟩
            have D4 := Lib.hid (dr_trans hdt.out hd1)
            clear hd1
            go_wp2_with fail
            refine (at_i B a n cap zs P inc _ t rfl (by omega) v4 (by rw [HE.out]; exact HV3.out.2) _ (H.out.dr D4.out)).mono ?_
            rintro e w5 ⟨rfl, hd2⟩
            have D5 := Lib.hid (dr_trans D4.out hd2)
            clear hd2
            go_wp2_with fail
            go_roundg g2
            case rel =>
              refine ⟨t + 1, by go_num, HT.out, by omega, fun u h1 h2 => ?_, D5.out⟩
              by_cases hut : u = t
              · subst hut; rw [HV3.out.1, HV3.out.2, HV.out.1, HV.out.2]; exact HD.out
              · exact hok.out u h1 (by omega)
            all_goals omega
          · have hd' : (v3 - v4 != v1 - v2) = true := by simpa using hd
            have HD := Lib.hid hd
            clear hd
            go_wp2_with fail
            refine (at_i B a n cap zs P inc _ (t + q) (by omega) (by omega) v3 (by rw [HE.out]; exact HV3.out.1) _ (H.out.dr hdt.out)).mono ?_
            rintro e w4 ⟨rfl, hd1⟩
            have D4 := Lib.hid (dr_trans hdt.out hd1)
            clear hd1
            go_wp2_with fail
            refine (at_i B a n cap zs P inc _ t rfl (by omega) v4 (by rw [HE.out]; exact HV3.out.2) _ (H.out.dr D4.out)).mono ?_
            rintro e w5 ⟨rfl, hd2⟩
            have D5 := Lib.hid (dr_trans D4.out hd2)
            clear hd2
            go_wp2_with fail
            go_roundg g
            case rel =>
              refine ⟨q + 1, by go_num, HQ.out, by omega, fun r h1 h2 => ?_, D5.out⟩
              by_cases hrq : r = q
              · subst hrq
                intro hg
                have := hg t ht1 htn
                rw [HV3.out.1, HV3.out.2, HV.out.1, HV.out.2] at this
                exact HD.out this
              · exact hno.out r h1 (by omega)
            all_goals omega

end Go.Proofs.Ytkienpbmoilheaa

namespace Go.Proofs.Ytkienpbmoilheaa
open Go.RowKit
set_option linter.unusedSimpArgs false

theorem RowZ.take {w : World} {a : Option Addr} {n cap : Nat} {zs : List Int} (h : RowZ w a n cap zs) (m : Nat) (hm : m ≤ n) : RowZ w a m cap (zs.take m) := by
  have hl := h.len
  have hle := h.le
  have hsm := h.sm
  refine ⟨by rw [List.length_take]; omega, by omega, by omega, h.cm, fun i hi => ?_, fun i hi => ?_⟩
  · rw [getD_take hi]; exact h.cell i (by omega)
  · rw [getD_take hi]; exact h.bd i (by omega)

/-- The normal form of a curve is handed back, in memory of the call's own. -/
def GivesNorm (zs : List Int) (p : Nat) (inc : Int) (w : World) (e : Ending) (w' : World) : Prop :=
  ∃ a n cap zs' p' inc', e = .returned (curV a n cap (p' : Nat) inc') ∧ Below w.heap.size w w' ∧ RowZ w' a n cap zs' ∧ NormC zs p inc zs' p' inc' ∧ ∀ x, a = some x → w.heap.size ≤ x.block

theorem norm_post {w w2 : World} {b : Nat} (hb : Below w.heap.size w w2) (hwb : w.heap.size ≤ b) {a : Option Addr} {n cap : Nat} {zs' : List Int} (hr : RowZ w2 a n cap zs') (hlt : ∀ x, a = some x → b < x.block) (p' : Nat) (inc' : Int)
    {zs : List Int} {p : Nat} {inc : Int} (hn : NormC zs p inc zs' p' inc') :
    GivesNorm zs p inc w (.returned (curV a n cap p' inc')) (((w2.setCell ⟨b, 0, none⟩ (.slice a n cap)).setCell ⟨b, 1, none⟩ (.int .i64 p')).setCell ⟨b, 2, none⟩ (.int .i64 inc')) :=
  ⟨a, n, cap, zs', p', inc', rfl, below_set3 hb hwb _ _ _, ((hr.store (fun x h _ => Nat.ne_of_gt (hlt x h)) _ _).store (fun x h _ => Nat.ne_of_gt (hlt x h)) _ _).store (fun x h _ => Nat.ne_of_gt (hlt x h)) _ _, hn, fun x h => Nat.le_trans hwb (Nat.le_of_lt (hlt x h))⟩

set_option maxHeartbeats 1600000 in
theorem reduced_inf (a : Option Addr) (n cap : Nat) (zs : List Int) (p : Nat) (inc : Int) (g : Good zs p inc) (i : Nat) (hi : i < zs.length) (hz : zs.getD i 0 = infV) (hj : ∀ j, j < i → ¬ zs.getD j 0 = infV) (w : World) (h : RowZ w a n cap zs) :
    Calls Try.prog 245 #[curV a n cap p inc] w (GivesNorm zs p inc w) := by
  have hB : Below w.heap.size w ((w.alloc (.cells #[.slice a n cap, .int .i64 p, .int .i64 inc] 24)).alloc (.cells #[.slice none 0 0, .int .i64 0, .int .i64 0] 24)) :=
    ((Below.refl _ _).alloc (Nat.le_refl _) _).alloc (by simp) _
  have HB := Lib.hid hB
  have H := Lib.hid (h.under hB)
  have hlen := h.len
  have hcap := h.le
  have hcm := h.cm
  have hfew := g.few
  obtain ⟨x, rfl, _⟩ := h.cell i (by omega)
  have I := Lib.hid (And.intro hi (And.intro hz hj))
  have hin : i < n := by omega
  have hn : n ≤ 400 := by omega
  have HL := Lib.hid hlen
  clear hi hz hj h hB hlen hfew g
  go_enter Try.func245, Try.ntmps245
  go_wp2_with fail
  refine (index_any (some x) n cap zs _ _ H.out).mono ?_
  intro e w1 hx
  obtain ⟨rfl, rfl⟩ : e = .returned (.int .i64 i) ∧ w1 = ((w.alloc (.cells #[.slice (some x) n cap, .int .i64 p, .int .i64 inc] 24)).alloc (.cells #[.slice none 0 0, .int .i64 0, .int .i64 0] 24)) := by
    rcases hx with ⟨_, _, h3⟩ | ⟨j, h1, h2, h3, h4, h5⟩
    · exact absurd I.out.2.1 (h3 i I.out.1)
    · have e1 : i = j := by
        rcases Nat.lt_trichotomy i j with hl | he | hl
        · exact absurd I.out.2.1 (h5 i hl)
        · exact he
        · exact absurd h4 (I.out.2.2 j hl)
      subst e1
      exact ⟨h1, h2.symm⟩
  clear hx
  have hcm2 : (cap : Int) ≤ 9223372036854775807 := by omega
  have hic : (i : Int) + 1 ≤ (cap : Int) := by omega
  go_wp2_with fail
  refine (clone_any x (i + 1) cap (zs.take (i + 1)) _ (H.out.take (i + 1) hin) (by omega)).mono ?_
  rintro e w2 ⟨a2, c2, rfl, hb2, hr2, hx2⟩
  obtain ⟨c0, c1, c2', f0, f1, f2⟩ := (Cur3.new2 w (.slice none 0 0) (.int .i64 0) (.int .i64 0) 24 (.cells #[.slice (some x) n cap, .int .i64 p, .int .i64 inc] 24)).below hb2
  have HP := Lib.hid (norm_post (b := w.heap.size + 1) (HB.out.trans (hb2.mono HB.out.size)) (Nat.le_succ _) hr2 (fun y hy => by have := hx2 y hy; simp at this; omega) 1 0 (.inr ⟨i, I.out.1, I.out.2.1, I.out.2.2, rfl, rfl, rfl⟩) (zs := zs) (p := p) (inc := inc))
  clear hb2 hr2 hx2
  go_wp2_with fail
  exact bodyPost_ret (v := curV a2 (i + 1) c2 1 0) (by simp [results, Try.results245, go_sem, c0, c1, c2']) rfl HP.out

end Go.Proofs.Ytkienpbmoilheaa
