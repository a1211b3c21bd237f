/- Contracts of package order's small functions: value, leastMultiple, at, and the two closures. By the verifier's side. | Contracts of package order: subtract, firstPositive, settledBeforeStart. By the verifier's side. | Contracts of package order: firstPositive, settledBeforeStart. By the verifier's side. | Contracts of package order: Exceeds, AtMost, Settles, Meets. By the verifier's side. | The examples of chapter 4 (awake), and value. By the verifier's side. | Contracts of the document's comparisons. By the verifier's side. | Contracts of the document's Settles, Meets and AtMost. By the verifier's side. -/
import Derived.Test.YtknimlpdpgpliaaLCurMCurNOrdM
import Derived.Test.YtknimlpdpgpliaaLRefV
import Derived.Test.YtknimlpdpgpliaaLNumCurTCurveGrowsW
import Derived.Deep.RegionHeld3
import Derived.Test.YtknimlpdpgpliaaLBentE
import Derived.RegionTactic
import Derived.StillTailTactics
import Derived.Test.YtknimlpdpgpliaaLCurSCurLCurW
import Derived.Test.YtknimlpdpgpliaaLRefARefP
import Derived.Test.YtknimlpdpgpliaaLRefO
namespace Go.Proofs.Ytknimlpdpgpliaa
open Go.RowKit
set_option linter.unusedSimpArgs false

set_option maxHeartbeats 1600000 in
theorem oval_at (a : Option Addr) (n cap : Nat) (zs : List Int) (p : Nat) (inc : Int) (good : Good zs p inc) (ti : Int) (t : Nat) (hti : ti = t) (ht : t ≤ 1048576) (v : Int) (hv : atC zs p inc t = v) (w : World) (h : RowZ w a n cap zs) :
    Calls Try.prog 161 #[curV a n cap p inc, .int .i64 ti] w (Says (.int .i64 v) w) := by
  subst hti
  have hB := box_below w (.cells #[.slice a n cap, .int .i64 p, .int .i64 inc] 26)
  have HBl := Lib.hid hB
  have hrow := h.under hB
  have HV := Lib.hid hv
  have hlen := h.len
  have hfew := good.few
  have hp1 := good.p1
  have hp2 := good.p2
  have hp3 := good.p3
  have hi0 := good.i0
  have hi1 := good.i1
  have hn : n ≤ 400 := by omega
  have hn1 : 1 ≤ n := by omega
  have hpn : p ≤ n := by omega
  clear hv h hB
  by_cases hlt : t < n
  · obtain ⟨x, rfl, hc⟩ := hrow.cell t hlt
    have e : zs.getD t 0 = v := by rw [← HV.out, atC_lt (by omega)]
    rw [e] at hc
    have r13 : (t : Int) < (n : Int) := by omega
    clear hrow good hlen e
    go_enter Try.func161, Try.ntmps161
    go_wp2_with fail
    go_ret
    exact ⟨rfl, HBl.out⟩
  · obtain ⟨i1', i2', i3'⟩ := idx_facts hp1 hpn (show n ≤ t by omega)
    obtain ⟨u, hu⟩ : ∃ u, t = n + u := ⟨t - n, by omega⟩
    obtain ⟨c, hc⟩ : ∃ c, u / p = c := ⟨_, rfl⟩
    have hcu : c ≤ u := by rw [← hc]; exact Nat.div_le_self _ _
    obtain ⟨M, hM⟩ : ∃ M, (c + 1) * p = M := ⟨_, rfl⟩
    rw [show t - n = u by omega, hc, hM] at i1' i2' i3'
    obtain ⟨i, hi⟩ : ∃ i, t - M = i := ⟨_, rfl⟩
    rw [hi] at i2' i3'
    obtain ⟨x, rfl, hcell⟩ := hrow.cell i i3'
    obtain ⟨z, hzz⟩ : ∃ z, zs.getD i 0 = z := ⟨_, rfl⟩
    rw [hzz] at hcell
    obtain ⟨G, hG⟩ : ∃ G, ((c : Int) + 1) * inc = G := ⟨_, rfl⟩
    have hG0 : 0 ≤ G ∧ G ≤ 1048577 * 1073741824 := by
      rw [← hG]
      have h1 : ((c : Int) + 1) * inc ≤ 1048577 * 1073741824 := Int.mul_le_mul (by omega) hi1 hi0 (by omega)
      exact ⟨Int.mul_nonneg (by omega) hi0, h1⟩
    have hzb : 0 ≤ z ∧ z ≤ 4611686018427387904 := by
      rw [← hzz]
      rcases good.val i (by omega) with h | h
      · omega
      · rw [h]; unfold infV; omega
    have e2 : z + G = v := by
      by_cases hz : zs.getD (zs.length - 1) 0 = infV
      · obtain ⟨hp, hz0⟩ := good.tailI hz
        have e : v = 4611686018427387904 := by rw [← HV.out, atC_inf hz (by omega) (by omega)]
        have ez : z = 4611686018427387904 := by rw [← hzz, show i = zs.length - 1 by omega]; exact hz
        rw [e, ez, ← hG, hz0]; simp
      · have e : zs.getD (t - ((t - n) / p + 1) * p) 0 + (((t - n) / p + 1 : Nat) : Int) * inc = v := by rw [← HV.out, atC_ge hz (by omega), hlen]
        rw [show t - n = u by omega, hc, hM, hi, hzz] at e
        rw [← e, ← hG]; rfl
    have r1 : (t : Int) - (n : Int) = (u : Int) := by omega
    have r2 : (u : Int) / (p : Int) = (c : Int) := by rw [← hc, Int.natCast_ediv]
    have r3 : IntKind.i64.wrap (((c : Int) + 1) * (p : Int)) = (M : Int) := by
      rw [show ((c : Int) + 1) * (p : Int) = (M : Int) by rw [← hM]; simp]
      exact IntWalk.i64_in _ ⟨by omega, by omega⟩
    have r4 : (t : Int) - (M : Int) = (i : Int) := by omega
    have r5 : IntKind.i64.wrap (i : Int) = (i : Int) := IntWalk.i64_in _ ⟨by omega, by omega⟩
    have r6 : IntKind.i64.wrap (((c : Int) + 1) * inc) = G := by rw [hG]; exact IntWalk.i64_in _ ⟨by omega, by omega⟩
    have r7 : IntKind.i64.wrap (z + G) = v := by rw [e2]; exact IntWalk.i64_in _ ⟨by omega, by omega⟩
    have r8 : (0 : Int) ≤ (i : Int) := by omega
    have r9 : (i : Int) < (n : Int) := by omega
    have r10 : ((t : Int) < (n : Int)) = False := by simp; omega
    have r11 : ¬ (p : Int) = 0 := by omega
    have r12 : (1 : Int) ≤ (p : Int) := by omega
    clear hrow good hlen hc hM hi hzz hG hu hG0 hzb e2 i1' i2' hlt
    go_enter Try.func161, Try.ntmps161
    go_wp2_with fail
    go_quiet (fail)
    go_wp2_with fail
    go_ret
    exact ⟨rfl, HBl.out.drewN _⟩

set_option maxHeartbeats 800000 in
theorem olm_any (a b : Nat) (ha : 1 ≤ a) (ha2 : a ≤ 1000) (hb : 1 ≤ b) (hb2 : b ≤ 1000) (w : World) :
    Calls Try.prog 160 #[.int .i64 a, .int .i64 b] w (Drew (.int .i64 (a / Nat.gcd a b * b : Nat)) w) := by
  go_enter Try.func160, Try.ntmps160
  go_wp2
  go_loopw [5, 6] (fun va vb wr => ∃ x y : Nat, va = .int .i64 x ∧ vb = .int .i64 y ∧ x < 9223372036854775808 ∧ y < 9223372036854775808 ∧ Hid (Nat.gcd x y = Nat.gcd a b) ∧ ∃ m, wr = w.drewN m) (fun _ vb _ => (intOf vb).toNat)
  case atStart => exact ⟨a, b, rfl, rfl, by omega, by omega, rfl, 0, rfl⟩
  case round =>
    obtain ⟨x, y, rfl, rfl, hx, hy, hg, m, rfl⟩ := hrel
    by_cases h0 : y = 0
    · subst h0
      have hg' := hg.out
      rw [Nat.gcd_zero_right] at hg'
      have hg1 : 1 ≤ (x : Int) := by have := Nat.gcd_pos_of_pos_left b (show 0 < a by omega); omega
      obtain ⟨q, hq⟩ : ∃ q, a / x = q := ⟨_, rfl⟩
      have hqa : q ≤ a := by rw [← hq]; exact Nat.div_le_self _ _
      obtain ⟨M, hM⟩ : ∃ M, q * b = M := ⟨_, rfl⟩
      have hmb : M ≤ 1000 * 1000 := by rw [← hM]; exact Nat.mul_le_mul (by omega) hb2
      have h1 : (a : Int) / (x : Int) = (q : Int) := by rw [← hq]; simp
      have h3 : IntKind.i64.wrap ((q : Int) * (b : Int)) = (M : Int) := by rw [show (q : Int) * (b : Int) = (M : Int) by rw [← hM]; simp]; exact IntWalk.i64_in _ ⟨by omega, by omega⟩
      have h4 : (q : Int) * (b : Int) = (M : Int) := by rw [← hM]; simp
      have HG := Lib.hid (show a / Nat.gcd a b * b = M by rw [← hg', hq, hM])
      clear hg hg' hq hM
      go_wp2
      go_ret
      exact ⟨ret_int (by rw [HG.out]), m, rfl⟩
    · have hy0 : 0 < y := by omega
      have hlt := Nat.mod_lt x hy0
      go_wp2
      go_quiet (fail)
      go_wp2
      go_roundw
      case rel => exact ⟨y, x % y, rfl, by rw [Int.natCast_emod], hy, by omega, (gcd_step x y).trans hg.out, m + _, World.drewN_drewN _ _ _⟩
      case measure => simp [intOf]; omega
theorem olm_at (a b L : Nat) (hL : a / Nat.gcd a b * b = L) (ha : 1 ≤ a) (ha2 : a ≤ 1000) (hb : 1 ≤ b) (hb2 : b ≤ 1000) (w : World) :
    Calls Try.prog 160 #[.int .i64 a, .int .i64 b] w (Drew (.int .i64 L) w) := by subst hL; exact olm_any a b ha ha2 hb hb2 w

/-- Block b holds two curves and three numbers, and may be written. -/
structure Dif (w : World) (b : Nat) (x0 x1 x2 y0 y1 y2 z0 z1 z2 : Value) : Prop where
  lo : Cur3 w b x0 x1 x2
  c3 : w.cell? ⟨b, 3, none⟩ = some y0
  c4 : w.cell? ⟨b, 4, none⟩ = some y1
  c5 : w.cell? ⟨b, 5, none⟩ = some y2
  c6 : w.cell? ⟨b, 6, none⟩ = some z0
  c7 : w.cell? ⟨b, 7, none⟩ = some z1
  c8 : w.cell? ⟨b, 8, none⟩ = some z2
  f3 : w.frozen? ⟨b, 3, none⟩ = false
  f4 : w.frozen? ⟨b, 4, none⟩ = false
  f5 : w.frozen? ⟨b, 5, none⟩ = false
  f6 : w.frozen? ⟨b, 6, none⟩ = false
  f7 : w.frozen? ⟨b, 7, none⟩ = false
  f8 : w.frozen? ⟨b, 8, none⟩ = false
section
variable {w w' : World} {b : Nat} {x0 x1 x2 y0 y1 y2 z0 z1 z2 : Value}
theorem Dif.lt (h : Dif w b x0 x1 x2 y0 y1 y2 z0 z1 z2) : b < w.heap.size := h.lo.lt
theorem Dif.below (h : Dif w b x0 x1 x2 y0 y1 y2 z0 z1 z2) (hb : Below w.heap.size w w') : Dif w' b x0 x1 x2 y0 y1 y2 z0 z1 z2 :=
  ⟨h.lo.below hb, (hb.cell (p := ⟨b, 3, none⟩) h.lt).trans h.c3, (hb.cell (p := ⟨b, 4, none⟩) h.lt).trans h.c4, (hb.cell (p := ⟨b, 5, none⟩) h.lt).trans h.c5,
    (hb.cell (p := ⟨b, 6, none⟩) h.lt).trans h.c6, (hb.cell (p := ⟨b, 7, none⟩) h.lt).trans h.c7, (hb.cell (p := ⟨b, 8, none⟩) h.lt).trans h.c8,
    (hb.frozen (p := ⟨b, 3, none⟩) h.lt).trans h.f3, (hb.frozen (p := ⟨b, 4, none⟩) h.lt).trans h.f4, (hb.frozen (p := ⟨b, 5, none⟩) h.lt).trans h.f5,
    (hb.frozen (p := ⟨b, 6, none⟩) h.lt).trans h.f6, (hb.frozen (p := ⟨b, 7, none⟩) h.lt).trans h.f7, (hb.frozen (p := ⟨b, 8, none⟩) h.lt).trans h.f8⟩
theorem Dif.alloc (h : Dif w b x0 x1 x2 y0 y1 y2 z0 z1 z2) (o : Obj) : Dif (w.alloc o) b x0 x1 x2 y0 y1 y2 z0 z1 z2 := h.below ((Below.refl _ _).alloc (Nat.le_refl _) o)
theorem Dif.drewN (h : Dif w b x0 x1 x2 y0 y1 y2 z0 z1 z2) (n : Nat) : Dif (w.drewN n) b x0 x1 x2 y0 y1 y2 z0 z1 z2 := h.below ((Below.refl _ _).drewN n)
theorem Dif.dr (h : Dif w b x0 x1 x2 y0 y1 y2 z0 z1 z2) (hd : ∃ m, w' = w.drewN m) : Dif w' b x0 x1 x2 y0 y1 y2 z0 z1 z2 := by obtain ⟨m, rfl⟩ := hd; exact h.drewN m
theorem Dif.other (h : Dif w b x0 x1 x2 y0 y1 y2 z0 z1 z2) {q : Nat} (hq : ¬ b = q) (i : Nat) (v : Value) : Dif (w.setCell ⟨q, i, none⟩ v) b x0 x1 x2 y0 y1 y2 z0 z1 z2 := by
  have hb : (w.setCell ⟨q, i, none⟩ v).heap[b]? = w.heap[b]? := Below.heap_setCell _ _ _ _ hq
  exact ⟨h.lo.other hq i v, (World.cell?_of_block (w := w) (a := ⟨b, 3, none⟩) hb).trans h.c3, (World.cell?_of_block (w := w) (a := ⟨b, 4, none⟩) hb).trans h.c4, (World.cell?_of_block (w := w) (a := ⟨b, 5, none⟩) hb).trans h.c5,
    (World.cell?_of_block (w := w) (a := ⟨b, 6, none⟩) hb).trans h.c6, (World.cell?_of_block (w := w) (a := ⟨b, 7, none⟩) hb).trans h.c7, (World.cell?_of_block (w := w) (a := ⟨b, 8, none⟩) hb).trans h.c8,
    (World.frozen?_of_block (w := w) (a := ⟨b, 3, none⟩) hb).trans h.f3, (World.frozen?_of_block (w := w) (a := ⟨b, 4, none⟩) hb).trans h.f4, (World.frozen?_of_block (w := w) (a := ⟨b, 5, none⟩) hb).trans h.f5,
    (World.frozen?_of_block (w := w) (a := ⟨b, 6, none⟩) hb).trans h.f6, (World.frozen?_of_block (w := w) (a := ⟨b, 7, none⟩) hb).trans h.f7, (World.frozen?_of_block (w := w) (a := ⟨b, 8, none⟩) hb).trans h.f8⟩
theorem Dif.set6 (h : Dif w b x0 x1 x2 y0 y1 y2 z0 z1 z2) (v : Value) : Dif (w.setCell ⟨b, 6, none⟩ v) b x0 x1 x2 y0 y1 y2 v z1 z2 := by
  obtain ⟨⟨c0, c1, c2, f0, f1, f2⟩, c3, c4, c5, c6, c7, c8, f3, f4, f5, f6, f7, f8⟩ := h
  exact ⟨⟨by go_simp, by go_simp, by go_simp, by go_simp, by go_simp, by go_simp⟩, by go_simp, by go_simp, by go_simp, by go_simp, by go_simp, by go_simp, by go_simp, by go_simp, by go_simp, by go_simp, by go_simp, by go_simp⟩
theorem Dif.set7 (h : Dif w b x0 x1 x2 y0 y1 y2 z0 z1 z2) (v : Value) : Dif (w.setCell ⟨b, 7, none⟩ v) b x0 x1 x2 y0 y1 y2 z0 v z2 := by
  obtain ⟨⟨c0, c1, c2, f0, f1, f2⟩, c3, c4, c5, c6, c7, c8, f3, f4, f5, f6, f7, f8⟩ := h
  exact ⟨⟨by go_simp, by go_simp, by go_simp, by go_simp, by go_simp, by go_simp⟩, by go_simp, by go_simp, by go_simp, by go_simp, by go_simp, by go_simp, by go_simp, by go_simp, by go_simp, by go_simp, by go_simp, by go_simp⟩
theorem Dif.set8 (h : Dif w b x0 x1 x2 y0 y1 y2 z0 z1 z2) (v : Value) : Dif (w.setCell ⟨b, 8, none⟩ v) b x0 x1 x2 y0 y1 y2 z0 z1 v := by
  obtain ⟨⟨c0, c1, c2, f0, f1, f2⟩, c3, c4, c5, c6, c7, c8, f3, f4, f5, f6, f7, f8⟩ := h
  exact ⟨⟨by go_simp, by go_simp, by go_simp, by go_simp, by go_simp, by go_simp⟩, by go_simp, by go_simp, by go_simp, by go_simp, by go_simp, by go_simp, by go_simp, by go_simp, by go_simp, by go_simp, by go_simp, by go_simp⟩
theorem dif_new (w : World) (x0 x1 x2 y0 y1 y2 z0 z1 z2 : Value) (t : TypeId) : Dif (w.alloc (.cells #[x0, x1, x2, y0, y1, y2, z0, z1, z2] t)) w.heap.size x0 x1 x2 y0 y1 y2 z0 z1 z2 :=
  ⟨⟨by go_simp, by go_simp, by go_simp, by go_simp, by go_simp, by go_simp⟩, by go_simp, by go_simp, by go_simp, by go_simp, by go_simp, by go_simp, by go_simp, by go_simp, by go_simp, by go_simp, by go_simp, by go_simp⟩
end

/-- What a drawn region keeps of such a block. -/
abbrev DifS (W : World) (b : Nat) (x0 x1 x2 y0 y1 y2 z0 z1 z2 : Value) (u : World) : Prop :=
  u.cell? ⟨b, 0, none⟩ = some x0 ∧ u.cell? ⟨b, 1, none⟩ = some x1 ∧ u.cell? ⟨b, 2, none⟩ = some x2 ∧ u.cell? ⟨b, 3, none⟩ = some y0 ∧ u.cell? ⟨b, 4, none⟩ = some y1 ∧ u.cell? ⟨b, 5, none⟩ = some y2 ∧
  u.cell? ⟨b, 6, none⟩ = some z0 ∧ u.cell? ⟨b, 7, none⟩ = some z1 ∧ u.cell? ⟨b, 8, none⟩ = some z2 ∧ Hid (Below W.heap.size W u ∧ Dif u b x0 x1 x2 y0 y1 y2 z0 z1 z2)
section
variable {W u v : World} {b : Nat} {x0 x1 x2 y0 y1 y2 z0 z1 z2 : Value}
theorem difs_s (h : Dif u b x0 x1 x2 y0 y1 y2 z0 z1 z2) (hb : Below W.heap.size W u) : DifS W b x0 x1 x2 y0 y1 y2 z0 z1 z2 u := ⟨h.lo.c0, h.lo.c1, h.lo.c2, h.c3, h.c4, h.c5, h.c6, h.c7, h.c8, hb, h⟩
theorem difs_below (h : DifS W b x0 x1 x2 y0 y1 y2 z0 z1 z2 u) : Below W.heap.size W u := h.2.2.2.2.2.2.2.2.2.out.1
theorem difs_dif (h : DifS W b x0 x1 x2 y0 y1 y2 z0 z1 z2 u) : Dif u b x0 x1 x2 y0 y1 y2 z0 z1 z2 := h.2.2.2.2.2.2.2.2.2.out.2
theorem difs_drew (h : Dif W b x0 x1 x2 y0 y1 y2 z0 z1 z2) : DifS W b x0 x1 x2 y0 y1 y2 z0 z1 z2 W.drew := difs_s (h.below (Below.refl _ _).drew) (Below.refl _ _).drew
theorem difs_call (h : DifS W b x0 x1 x2 y0 y1 y2 z0 z1 z2 u) (hb : Below u.heap.size u v) : DifS W b x0 x1 x2 y0 y1 y2 z0 z1 z2 v :=
  difs_s ((difs_dif h).below hb) ((difs_below h).trans (hb.mono (difs_below h).size))
end

/-- The difference of two curves, as it is handed on. -/
abbrev difV (a : Option Addr) (n cap : Nat) (p inc : Int) (a2 : Option Addr) (n2 cap2 : Nat) (q jnc : Int) (S L c : Int) : Value :=
  .agg #[.slice a n cap, .int .i64 p, .int .i64 inc, .slice a2 n2 cap2, .int .i64 q, .int .i64 jnc, .int .i64 S, .int .i64 L, .int .i64 c]

set_option maxHeartbeats 1600000 in
theorem dat_at (a : Option Addr) (n cap : Nat) (zs : List Int) (p : Nat) (inc : Int) (g : Good zs p inc) (a2 : Option Addr) (n2 cap2 : Nat) (ys : List Int) (q : Nat) (jnc : Int) (k : Good ys q jnc) (S L c : Int)
    (ti : Int) (t : Nat) (hti : ti = t) (ht : t ≤ 1048576) (v : Int) (hv : atC zs p inc t - atC ys q jnc t = v) (w : World) (h : RowZ w a n cap zs) (h2 : RowZ w a2 n2 cap2 ys) :
    Calls Try.prog 136 #[difV a n cap p inc a2 n2 cap2 q jnc S L c, .int .i64 ti] w (Says (.int .i64 v) w) := by
  subst hti
  have hB := box_below w (.cells #[.slice a n cap, .int .i64 p, .int .i64 inc, .slice a2 n2 cap2, .int .i64 q, .int .i64 jnc, .int .i64 S, .int .i64 L, .int .i64 c] 125)
  have HBl := Lib.hid hB
  have H := Lib.hid (h.under hB)
  have H2 := Lib.hid (h2.under hB)
  have KD := Lib.hid (dif_new w (.slice a n cap) (.int .i64 p) (.int .i64 inc) (.slice a2 n2 cap2) (.int .i64 q) (.int .i64 jnc) (.int .i64 S) (.int .i64 L) (.int .i64 c) 125)
  have hd := dif_bd g k ht
  obtain ⟨x, hx⟩ : ∃ x, atC zs p inc t = x := ⟨_, rfl⟩
  obtain ⟨y, hy⟩ : ∃ y, atC ys q jnc t = y := ⟨_, rfl⟩
  rw [hx, hy] at hd hv
  have hbx := at_bd g ht
  have hby := at_bd k ht
  rw [hx] at hbx
  rw [hy] at hby
  obtain ⟨hx0, hx1⟩ := hbx
  obtain ⟨hy0, hy1⟩ := hby
  have r1 : IntKind.i64.wrap (x - y) = v := by rw [hv]; rw [hv] at hd; exact IntWalk.i64_in _ ⟨by omega, by omega⟩
  have HG := Lib.hid g
  have HK := Lib.hid k
  have HX := Lib.hid hx
  have HY := Lib.hid hy
  have HV := Lib.hid hv
  clear h h2 hB g k hv hx hy hd
  go_enter Try.func136, Try.ntmps136
  go_wp2_with fail
  generalize w.alloc (.cells #[.slice a n cap, .int .i64 p, .int .i64 inc, .slice a2 n2 cap2, .int .i64 q, .int .i64 jnc, .int .i64 S, .int .i64 L, .int .i64 c] 125) = w0 at HBl H H2 KD ⊢
  go_region_held3 (fun u => DifS w0 w.heap.size (.slice a n cap) (.int .i64 p) (.int .i64 inc) (.slice a2 n2 cap2) (.int .i64 q) (.int .i64 jnc) (.int .i64 S) (.int .i64 L) (.int .i64 c) u)
    (first | with_reducible exact difs_drew KD.out | with_reducible exact difs_call (by assumption) hbx)
    (first
      | (go_at_call 161; ((with_reducible refine (oval_at a n cap zs p inc HG.out t t rfl ht x HX.out _ (H.out.under (difs_below (by assumption)))).mono ?_); rintro e w1 ⟨rfl, hbx⟩))
      | (go_at_call 161; ((with_reducible refine (oval_at a2 n2 cap2 ys q jnc HK.out t t rfl ht y HY.out _ (H2.out.under (difs_below (by assumption)))).mono ?_); rintro e w2 ⟨rfl, hbx⟩)))
  all_goals go_wp2_with fail
  all_goals go_ret
  all_goals exact ⟨rfl, HBl.out.trans ((difs_below (by assumption)).mono HBl.out.size)⟩
end Go.Proofs.Ytknimlpdpgpliaa

namespace Go.Proofs.Ytknimlpdpgpliaa
open Go.RowKit
set_option linter.unusedSimpArgs false

/-- What subtract hands back: the difference, and an error code. -/
def GivesDif (v : Value) (e : Int) (w : World) (en : Ending) (w' : World) : Prop := en = .returned (.tuple #[v, .int .i64 e]) ∧ Below w.heap.size w w'

theorem below_set9 {B : Nat} {u w : World} {b : Nat} (h : Below B u w) (hb : B ≤ b) (v0 v1 v2 v3 v4 v5 v6 v7 v8 : Value) :
    Below B u (((((((((w.setCell ⟨b, 0, none⟩ v0).setCell ⟨b, 1, none⟩ v1).setCell ⟨b, 2, none⟩ v2).setCell ⟨b, 3, none⟩ v3).setCell ⟨b, 4, none⟩ v4).setCell ⟨b, 5, none⟩ v5).setCell ⟨b, 6, none⟩ v6).setCell ⟨b, 7, none⟩ v7).setCell ⟨b, 8, none⟩ v8) :=
  ((((((((h.setCell (p := ⟨b, 0, none⟩) hb _).setCell (p := ⟨b, 1, none⟩) hb _).setCell (p := ⟨b, 2, none⟩) hb _).setCell (p := ⟨b, 3, none⟩) hb _).setCell (p := ⟨b, 4, none⟩) hb _).setCell (p := ⟨b, 5, none⟩) hb _).setCell (p := ⟨b, 6, none⟩) hb _).setCell (p := ⟨b, 7, none⟩) hb _).setCell (p := ⟨b, 8, none⟩) hb _

theorem two_store {w : World} {F : Nat} {a : Option Addr} {n cap p : Nat} {inc : Int} {zs : List Int} {G : Nat} {b : Option Addr} {m cup q : Nat} {jnc : Int} {ys : List Int} (h : Two w F a n cap p inc zs G b m cup q jnc ys) {E : Nat} (hF : ¬ F = E) (hG : ¬ G = E)
    (h1 : ∀ x, a = some x → ¬ x.block = E) (h2 : ∀ x, b = some x → ¬ x.block = E) (i : Nat) (v : Value) : Two (w.setCell ⟨E, i, none⟩ v) F a n cap p inc zs G b m cup q jnc ys :=
  ⟨h.bx.other hF i v, h.rx.store (fun x hx _ => h1 x hx) i v, h.by'.other hG i v, h.ry.store (fun x hx _ => h2 x hx) i v⟩

theorem finB_of {zs : List Int} {p : Nat} {inc : Int} (g : Good zs p inc) : finB zs p inc = true ↔ ¬ InfC zs := by
  unfold finB InfC; rw [(okC_iff zs p inc).2 g]; simp

theorem growC_bool {zs ys : List Int} {p q : Nat} {inc jnc : Int} (g : Good zs p inc) (k : Good ys q jnc) {L : Nat} :
    (finB zs p inc = finB ys q jnc → growC zs p inc ys q jnc L = ((L / p : Nat) : Int) * inc - ((L / q : Nat) : Int) * jnc) ∧ (¬ finB zs p inc = finB ys q jnc → growC zs p inc ys q jnc L = 0) := by
  have h1 := finB_of g
  have h2 := finB_of k
  constructor
  · intro h
    unfold growC
    rw [if_pos]
    rw [← h, h1] at h2
    exact ⟨fun a => Classical.byContradiction fun b => h2.2 b a, fun a => Classical.byContradiction fun b => h2.1 b a⟩
  · intro h
    refine growC_inf g k (Classical.byContradiction fun hn => h ?_)
    rw [h1.2 (fun x => hn (.inl x)), h2.2 (fun x => hn (.inr x))]

set_option maxRecDepth 100000 in
set_option maxHeartbeats 6400000 in
theorem sub_ok (a : Option Addr) (n cap : Nat) (zs : List Int) (p : Nat) (inc : Int) (g : Good zs p inc) (a2 : Option Addr) (n2 cap2 : Nat) (ys : List Int) (q : Nat) (jnc : Int) (k : Good ys q jnc) (S L : Nat) (c : Int)
    (hS : max (n - p) (n2 - q) = S) (hL : p / Nat.gcd p q * q = L) (hc : growC zs p inc ys q jnc L = c) (w : World) (h : RowZ w a n cap zs) (h2 : RowZ w a2 n2 cap2 ys) :
    Calls Try.prog 133 #[curV a n cap p inc, curV a2 n2 cap2 q jnc] w (GivesDif (difV a n cap p inc a2 n2 cap2 q jnc S L c) 0 w) := by
  have hB : Below w.heap.size w (((w.alloc (.cells #[.slice a n cap, .int .i64 p, .int .i64 inc] 26)).alloc (.cells #[.slice a2 n2 cap2, .int .i64 q, .int .i64 jnc] 26)).alloc (.cells #[.slice none 0 0, .int .i64 0, .int .i64 0, .slice none 0 0, .int .i64 0, .int .i64 0, .int .i64 0, .int .i64 0, .int .i64 0] 125)) :=
    (((Below.refl _ _).alloc (Nat.le_refl _) _).alloc (by simp) _).alloc (by simp; omega) _
  have HBl := Lib.hid hB
  have T0 := Lib.hid (show Two (((w.alloc (.cells #[.slice a n cap, .int .i64 p, .int .i64 inc] 26)).alloc (.cells #[.slice a2 n2 cap2, .int .i64 q, .int .i64 jnc] 26)).alloc (.cells #[.slice none 0 0, .int .i64 0, .int .i64 0, .slice none 0 0, .int .i64 0, .int .i64 0, .int .i64 0, .int .i64 0, .int .i64 0] 125)) w.heap.size a n cap p inc zs (w.heap.size + 1) a2 n2 cap2 q jnc ys from
    ⟨((Cur3.new w (.slice a n cap) (.int .i64 p) (.int .i64 inc) 26).alloc _).alloc _, h.under hB, (Cur3.new2 w _ _ _ _ _).alloc _, h2.under hB⟩)
  have KD := Lib.hid (dif_new ((w.alloc (.cells #[.slice a n cap, .int .i64 p, .int .i64 inc] 26)).alloc (.cells #[.slice a2 n2 cap2, .int .i64 q, .int .i64 jnc] 26)) (.slice none 0 0) (.int .i64 0) (.int .i64 0) (.slice none 0 0) (.int .i64 0) (.int .i64 0) (.int .i64 0) (.int .i64 0) (.int .i64 0) 125)
  rw [show ((w.alloc (.cells #[.slice a n cap, .int .i64 p, .int .i64 inc] 26)).alloc (.cells #[.slice a2 n2 cap2, .int .i64 q, .int .i64 jnc] 26)).heap.size = w.heap.size + 1 + 1 by simp] at KD
  have V1 := Lib.hid ((okC_iff zs p inc).2 g)
  have V2 := Lib.hid ((okC_iff ys q jnc).2 k)
  have hl1 := h.len
  have hl2 := h2.len
  have hgp1 := g.p1; have hgp2 := g.p2; have hgp3 := g.p3; have hgf := g.few; have hgi0 := g.i0; have hgi1 := g.i1
  have hkp1 := k.p1; have hkp2 := k.p2; have hkp3 := k.p3; have hkf := k.few; have hki0 := k.i0; have hki1 := k.i1
  rw [hl1] at hgp3 hgf
  rw [hl2] at hkp3 hkf
  obtain ⟨s1, hs1⟩ : ∃ s, n - p = s := ⟨_, rfl⟩
  obtain ⟨s2, hs2⟩ : ∃ s, n2 - q = s := ⟨_, rfl⟩
  have q1 : (n : Int) - (p : Int) = (s1 : Int) := by omega
  have q2 : (n2 : Int) - (q : Int) = (s2 : Int) := by omega
  have hLL := lcm_of hgp1 hkp1 hL
  have hLb : L ≤ 14400 := Nat.le_trans hLL.le (Nat.mul_le_mul hgp2 hkp2)
  have HS := Lib.hid (And.intro hS (And.intro hs1 hs2))
  have HL := Lib.hid hL
  have HLL := Lib.hid hLL
  have HC := Lib.hid hc
  have HG := Lib.hid g
  have HK := Lib.hid k
  clear h h2 hB hS hs1 hs2 hL hLL hc g k hl1 hl2
  go_enter Try.func133, Try.ntmps133
  go_wp2_with fail
  generalize hw0 : (((w.alloc (.cells #[.slice a n cap, .int .i64 p, .int .i64 inc] 26)).alloc (.cells #[.slice a2 n2 cap2, .int .i64 q, .int .i64 jnc] 26)).alloc (.cells #[.slice none 0 0, .int .i64 0, .int .i64 0, .slice none 0 0, .int .i64 0, .int .i64 0, .int .i64 0, .int .i64 0, .int .i64 0] 125)) = w0 at HBl T0 KD ⊢
  clear hw0
  refine (valid_any a n cap zs p inc ⟨by omega, by omega⟩ ⟨by omega, by omega⟩ true V1.out _ T0.out.rx).mono ?_
  rintro e w1 ⟨rfl, hb⟩
  have HB1 := Lib.hid (HBl.out.trans (hb.mono HBl.out.size))
  have T1 := Lib.hid (T0.out.under hb)
  have KD1 := Lib.hid (KD.out.below hb)
  obtain ⟨c0, c1, c2, f0, f1, f2⟩ := T1.out.by'
  clear hb
  go_wp2_with fail
  clear c0 c1 c2 f0 f1 f2
  refine (valid_any a2 n2 cap2 ys q jnc ⟨by omega, by omega⟩ ⟨by omega, by omega⟩ true V2.out _ T1.out.ry).mono ?_
  rintro e w2 ⟨rfl, hb⟩
  have HB2 := Lib.hid (HB1.out.trans (hb.mono HB1.out.size))
  have T2 := Lib.hid (T1.out.under hb)
  have KD2 := Lib.hid (KD1.out.below hb)
  clear hb T0 T1 KD KD1 HBl HB1
  obtain ⟨c0, c1, c2, f0, f1, f2⟩ := T2.out.bx
  obtain ⟨d0, d1, d2, g0, g1, g2⟩ := T2.out.by'
  have hTlt := KD2.out.lt
  have hr1 : ∀ x, a = some x → ¬ x.block = w2.heap.size := fun x hx => by have := row_lt T2.out.rx (by omega) x hx; omega
  have hr2 : ∀ x, a2 = some x → ¬ x.block = w2.heap.size := fun x hx => by have := row_lt T2.out.ry (by omega) x hx; omega
  have HR := Lib.hid (And.intro hr1 hr2)
  clear hr1 hr2
  go_upto_region 4 with fail
  clear c0 c1 c2 f0 f1 f2 d0 d1 d2 g0 g1 g2
  have A3 := Lib.hid (T2.out.under (box_below w2 (.cells #[.slice a n cap, .int .i64 p, .int .i64 inc, .slice a2 n2 cap2, .int .i64 q, .int .i64 jnc, .int .i64 0, .int .i64 0, .int .i64 0] 125)))
  have D3 := Lib.hid (KD2.out.alloc (.cells #[.slice a n cap, .int .i64 p, .int .i64 inc, .slice a2 n2 cap2, .int .i64 q, .int .i64 jnc, .int .i64 0, .int .i64 0, .int .i64 0] 125))
  have E3 := Lib.hid (dif_new w2 (.slice a n cap) (.int .i64 p) (.int .i64 inc) (.slice a2 n2 cap2) (.int .i64 q) (.int .i64 jnc) (.int .i64 0) (.int .i64 0) (.int .i64 0) 125)
  have B3 := Lib.hid (HB2.out.alloc HB2.out.size (.cells #[.slice a n cap, .int .i64 p, .int .i64 inc, .slice a2 n2 cap2, .int .i64 q, .int .i64 jnc, .int .i64 0, .int .i64 0, .int .i64 0] 125))
  generalize w2.alloc (.cells #[.slice a n cap, .int .i64 p, .int .i64 inc, .slice a2 n2 cap2, .int .i64 q, .int .i64 jnc, .int .i64 0, .int .i64 0, .int .i64 0] 125) = w3 at A3 D3 E3 B3 ⊢
  obtain ⟨E, hEe⟩ : ∃ E, w2.heap.size = E := ⟨_, rfl⟩
  rw [hEe] at E3 hTlt HR ⊢
  clear hEe T2 KD2 HB2
  obtain ⟨c0, c1, c2, f0, f1, f2⟩ := A3.out.bx
  obtain ⟨d0, d1, d2, g0, g1, g2⟩ := A3.out.by'
  obtain ⟨_, _, _, _, e6, _, _, _, _, _, k6, _, _⟩ := E3.out
  go_cut [] (fun wx => Hid (Two wx w.heap.size a n cap p inc zs (w.heap.size + 1) a2 n2 cap2 q jnc ys) ∧
    Hid (Dif wx (w.heap.size + 1 + 1) (.slice none 0 0) (.int .i64 0) (.int .i64 0) (.slice none 0 0) (.int .i64 0) (.int .i64 0) (.int .i64 0) (.int .i64 0) (.int .i64 0)) ∧
    Hid (Dif wx E (.slice a n cap) (.int .i64 p) (.int .i64 inc) (.slice a2 n2 cap2) (.int .i64 q) (.int .i64 jnc) (.int .i64 S) (.int .i64 0) (.int .i64 0)) ∧ Hid (Below w.heap.size w wx))
  case first =>
    have hcmp : (s2 ≤ s1 ∧ S = s1) ∨ (s1 < s2 ∧ S = s2) := by have := HS.out.1; have := HS.out.2.1; have := HS.out.2.2; omega
    rcases hcmp with ⟨h12, hSe⟩ | ⟨h12, hSe⟩
    · have h12' : (s2 : Int) ≤ (s1 : Int) := by omega
      have hd12 : decide (s1 < s2) = false := by simp; omega
      have hd13 : ¬ s1 < s2 := by omega
      have HSE := Lib.hid hSe
      clear hSe
      go_wp2_with fail
      go_meet
      exact ⟨two_store A3.out (by omega) (by omega) HR.out.1 HR.out.2 _ _, D3.out.other (by omega) _ _, by rw [HSE.out]; exact E3.out.set6 _, B3.out.setCell (p := ⟨E, 6, none⟩) (by show w.heap.size ≤ E; omega) _⟩
    · have h12' : (s1 : Int) < (s2 : Int) := by omega
      have hd12 : decide (s1 < s2) = true := by simp; omega
      have HSE := Lib.hid hSe
      clear hSe
      go_wp2_with fail
      go_meet
      exact ⟨two_store A3.out (by omega) (by omega) HR.out.1 HR.out.2 _ _, D3.out.other (by omega) _ _, by rw [HSE.out]; exact E3.out.set6 _, B3.out.setCell (p := ⟨E, 6, none⟩) (by show w.heap.size ≤ E; omega) _⟩
  case rest =>
    clear A3 D3 E3 B3 c0 c1 c2 f0 f1 f2 d0 d1 d2 g0 g1 g2 e6 k6
    obtain ⟨T4, D4, E4, HB4⟩ := hcut
    obtain ⟨w4, rfl⟩ : ∃ u : World, u = wc := ⟨_, rfl⟩
    have HSE := Lib.hid HS.out
    obtain ⟨c0, c1, c2, f0, f1, f2⟩ := T4.out.bx
    obtain ⟨d0, d1, d2, g0, g1, g2⟩ := T4.out.by'
    go_wp2_with fail
    clear c0 c1 c2 f0 f1 f2 d0 d1 d2 g0 g1 g2
    refine (olm_at p q L HL.out hgp1 (by omega) hkp1 (by omega) _).mono ?_
    rintro e w5 ⟨rfl, hd⟩
    have T5 := Lib.hid (T4.out.under (below_dr (Below.refl _ _) hd))
    have D5 := Lib.hid (D4.out.dr hd)
    have E5 := Lib.hid (E4.out.dr hd)
    have HB5 := Lib.hid (below_dr HB4.out hd)
    clear hd T4 D4 E4 HB4
    obtain ⟨_, _, _, _, _, e7, _, _, _, _, _, k7, _⟩ := E5.out
    go_wp2_with fail
    clear e7 k7
    have T6 := Lib.hid (two_store T5.out (E := E) (by omega) (by omega) HR.out.1 HR.out.2 7 (.int .i64 L))
    have D6 := Lib.hid (D5.out.other (q := E) (by omega) 7 (.int .i64 L))
    have E6 := Lib.hid (E5.out.set7 (.int .i64 L))
    have HB6 := Lib.hid (HB5.out.setCell (p := ⟨E, 7, none⟩) (by show w.heap.size ≤ E; omega) (.int .i64 L))
    generalize w5.setCell ⟨E, 7, none⟩ (.int .i64 L) = w6 at T6 D6 E6 HB6 ⊢
    clear T5 D5 E5 HB5
    obtain ⟨b1, hb1⟩ : ∃ b, finB zs p inc = b := ⟨_, rfl⟩
    obtain ⟨b2, hb2⟩ : ∃ b, finB ys q jnc = b := ⟨_, rfl⟩
    have hgb := growC_bool HG.out HK.out (L := L)
    rw [hb1, hb2, HC.out] at hgb
    have F1 := Lib.hid hb1
    have F2 := Lib.hid hb2
    by_cases hbb : b1 = b2
    · have hcc := hgb.1 hbb
      subst hbb
      obtain ⟨lp, hlp⟩ : ∃ l, L / p = l := ⟨_, rfl⟩
      obtain ⟨lq, hlq⟩ : ∃ l, L / q = l := ⟨_, rfl⟩
      have hlp2 : lp ≤ L := by rw [← hlp]; exact Nat.div_le_self _ _
      have hlq2 : lq ≤ L := by rw [← hlq]; exact Nat.div_le_self _ _
      rw [hlp, hlq] at hcc
      obtain ⟨X1, hX1⟩ : ∃ x, (lp : Int) * inc = x := ⟨_, rfl⟩
      obtain ⟨X2, hX2⟩ : ∃ x, (lq : Int) * jnc = x := ⟨_, rfl⟩
      have hX1b : 0 ≤ X1 ∧ X1 ≤ 14400 * 1073741824 := by
        rw [← hX1]; exact ⟨Int.mul_nonneg (by omega) hgi0, Int.mul_le_mul (by omega) hgi1 hgi0 (by omega)⟩
      have hX2b : 0 ≤ X2 ∧ X2 ≤ 14400 * 1073741824 := by
        rw [← hX2]; exact ⟨Int.mul_nonneg (by omega) hki0, Int.mul_le_mul (by omega) hki1 hki0 (by omega)⟩
      rw [hX1, hX2] at hcc
      have q3 : (L : Int).tdiv (p : Int) = (lp : Int) := by rw [← hlp]; rfl
      have q4 : (L : Int).tdiv (q : Int) = (lq : Int) := by rw [← hlq]; rfl
      have q3' : (L : Int) / (p : Int) = (lp : Int) := by rw [← hlp]; rfl
      have q4' : (L : Int) / (q : Int) = (lq : Int) := by rw [← hlq]; rfl
      have q5 : IntKind.i64.wrap (lp : Int) = (lp : Int) := IntWalk.i64_in _ ⟨by omega, by omega⟩
      have q6 : IntKind.i64.wrap (lq : Int) = (lq : Int) := IntWalk.i64_in _ ⟨by omega, by omega⟩
      have q7 : IntKind.i64.wrap ((lp : Int) * inc) = X1 := by rw [hX1]; exact IntWalk.i64_in _ ⟨by omega, by omega⟩
      have q8 : IntKind.i64.wrap ((lq : Int) * jnc) = X2 := by rw [hX2]; exact IntWalk.i64_in _ ⟨by omega, by omega⟩
      have q9 : IntKind.i64.wrap (X1 - X2) = c := by rw [hcc]; exact IntWalk.i64_in _ ⟨by omega, by omega⟩
      have q10 : ¬ p = 0 := by omega
      have q11 : ¬ q = 0 := by omega
      have q12 : ¬ (p : Int) = 0 := by omega
      have q13 : ¬ (q : Int) = 0 := by omega
      clear hb1 hb2 hgb hcc hlp hlq hX1 hX2
      go_region_held3 (fun u => Two6 w6 w.heap.size a n cap p inc zs (w.heap.size + 1) a2 n2 cap2 q jnc ys u)
        (first | with_reducible exact two6_drew T6.out | with_reducible exact two6_call (by assumption) hbx)
        (first
          | (go_at_call 129; ((with_reducible refine (finite_any a n cap zs p inc ⟨by omega, by omega⟩ ⟨by omega, by omega⟩ b1 F1.out _ (two6_of (by assumption)).rx).mono ?_); rintro e w7 ⟨rfl, hbx⟩))
          | (go_at_call 129; ((with_reducible refine (finite_any a2 n2 cap2 ys q jnc ⟨by omega, by omega⟩ ⟨by omega, by omega⟩ b1 F2.out _ (two6_of (by assumption)).ry).mono ?_); rintro e w8 ⟨rfl, hbx⟩)))
      have hT : Two6 w6 w.heap.size a n cap p inc zs (w.heap.size + 1) a2 n2 cap2 q jnc ys w8 := by assumption
      have hb8 := two6_below hT
      have T8 := Lib.hid (two6_of hT)
      have D8 := Lib.hid (D6.out.below hb8)
      have E8 := Lib.hid (E6.out.below hb8)
      have HB8 := Lib.hid (HB6.out.trans (hb8.mono HB6.out.size))
      have C9 := Lib.hid q9
      clear hT hb8 T6 D6 E6 HB6
      obtain ⟨c0, c1, c2, f0, f1, f2⟩ := T8.out.bx
      obtain ⟨d0, d1, d2, g0, g1, g2⟩ := T8.out.by'
      obtain ⟨_, _, _, _, _, e7, e8, _, _, _, _, _, k8⟩ := E8.out
      go_wp2_with fail
      go_region
      clear c0 c1 c2 f0 f1 f2 d0 d1 d2 g0 g1 g2 e7 e8 k8
      have D9 := Lib.hid (((D8.out.other (q := E) (by omega) 8 (.int .i64 c))).below (Below.refl _ _).drew)
      have E9 := Lib.hid ((E8.out.set8 (.int .i64 c)).below (Below.refl _ _).drew)
      have HB9 := Lib.hid ((HB8.out.setCell (p := ⟨E, 8, none⟩) (by show w.heap.size ≤ E; omega) (.int .i64 c)).drew)
      generalize (w8.setCell ⟨E, 8, none⟩ (.int .i64 c)).drew = w9 at D9 E9 HB9 ⊢
      clear D8 E8 HB8 T8
      obtain ⟨⟨d0, d1, d2, g0, g1, g2⟩, d3, d4, d5, d6, d7, d8, g3, g4, g5, g6, g7, g8⟩ := D9.out
      obtain ⟨⟨e0, e1, e2, k0, k1, k2⟩, e3, e4, e5, e6, e7, e8, k3, k4, k5, k6, k7, k8⟩ := E9.out
      go_wp2_with fail
      refine bodyPost_ret (v := .tuple #[difV a n cap p inc a2 n2 cap2 q jnc S L c, .int .i64 0]) (by simp [results, Try.results133, go_sem, d0, d1, d2, d3, d4, d5, d6, d7, d8, g0, g1, g2, g3, g4, g5, g6, g7, g8]) rfl ⟨rfl, below_set9 HB9.out (by omega) _ _ _ _ _ _ _ _ _⟩
    · have hcc : c = 0 := hgb.2 hbb
      subst hcc
      have hbe : (b1 == b2) = false := by simpa using hbb
      clear hb1 hb2 hgb hbb
      go_region_held3 (fun u => Two6 w6 w.heap.size a n cap p inc zs (w.heap.size + 1) a2 n2 cap2 q jnc ys u)
        (first | with_reducible exact two6_drew T6.out | with_reducible exact two6_call (by assumption) hbx)
        (first
          | (go_at_call 129; ((with_reducible refine (finite_any a n cap zs p inc ⟨by omega, by omega⟩ ⟨by omega, by omega⟩ b1 F1.out _ (two6_of (by assumption)).rx).mono ?_); rintro e w7 ⟨rfl, hbx⟩))
          | (go_at_call 129; ((with_reducible refine (finite_any a2 n2 cap2 ys q jnc ⟨by omega, by omega⟩ ⟨by omega, by omega⟩ b2 F2.out _ (two6_of (by assumption)).ry).mono ?_); rintro e w8 ⟨rfl, hbx⟩)))
      have hT : Two6 w6 w.heap.size a n cap p inc zs (w.heap.size + 1) a2 n2 cap2 q jnc ys w8 := by assumption
      have hb8 := two6_below hT
      obtain ⟨⟨d0, d1, d2, g0, g1, g2⟩, d3, d4, d5, d6, d7, d8, g3, g4, g5, g6, g7, g8⟩ := D6.out.below hb8
      obtain ⟨⟨e0, e1, e2, k0, k1, k2⟩, e3, e4, e5, e6, e7, e8, k3, k4, k5, k6, k7, k8⟩ := E6.out.below hb8
      have HB8 := Lib.hid (HB6.out.trans (hb8.mono HB6.out.size))
      clear hT hb8
      go_wp2_with fail
      refine bodyPost_ret (v := .tuple #[difV a n cap p inc a2 n2 cap2 q jnc S L 0, .int .i64 0]) (by simp [results, Try.results133, go_sem, d0, d1, d2, d3, d4, d5, d6, d7, d8, g0, g1, g2, g3, g4, g5, g6, g7, g8]) rfl ⟨rfl, below_set9 HB8.out (by omega) _ _ _ _ _ _ _ _ _⟩
end Go.Proofs.Ytknimlpdpgpliaa

namespace Go.Proofs.Ytknimlpdpgpliaa
open Go.RowKit
set_option linter.unusedSimpArgs false

/-- What is known of a difference that stands in block b of a world: both lists, and the numbers. -/
structure DifOk (w : World) (a : Option Addr) (n cap : Nat) (zs : List Int) (p : Nat) (inc : Int) (a2 : Option Addr) (n2 cap2 : Nat) (ys : List Int) (q : Nat) (jnc : Int) (S L : Nat) : Prop where
  g : Good zs p inc
  k : Good ys q jnc
  r : RowZ w a n cap zs
  r2 : RowZ w a2 n2 cap2 ys
  s : max (n - p) (n2 - q) = S
  l : p / Nat.gcd p q * q = L
section
variable {w w' : World} {a : Option Addr} {n cap : Nat} {zs : List Int} {p : Nat} {inc : Int} {a2 : Option Addr} {n2 cap2 : Nat} {ys : List Int} {q : Nat} {jnc : Int} {S L : Nat}
theorem DifOk.under (h : DifOk w a n cap zs p inc a2 n2 cap2 ys q jnc S L) (hb : Below w.heap.size w w') : DifOk w' a n cap zs p inc a2 n2 cap2 ys q jnc S L := ⟨h.g, h.k, h.r.under hb, h.r2.under hb, h.s, h.l⟩
theorem DifOk.lcm (h : DifOk w a n cap zs p inc a2 n2 cap2 ys q jnc S L) : Lcm p q L := lcm_of h.g.p1 h.k.p1 h.l
theorem DifOk.small (h : DifOk w a n cap zs p inc a2 n2 cap2 ys q jnc S L) : S ≤ 400 ∧ 1 ≤ L ∧ L ≤ 14400 := by
  have h1 := h.s; have h2 := h.r.len; have h3 := h.r2.len; have h4 := h.g.few; have h5 := h.k.few
  exact ⟨by omega, h.lcm.one, Nat.le_trans h.lcm.le (Nat.mul_le_mul h.g.p2 h.k.p2)⟩
theorem DifOk.per (h : DifOk w a n cap zs p inc a2 n2 cap2 ys q jnc S L) : Per (dC zs p inc ys q jnc) S L (growC zs p inc ys q jnc L) := by
  have h1 := h.s; have h2 := h.r.len; have h3 := h.r2.len
  exact dC_per h.g h.k h.lcm (by omega) (by omega)
theorem DifOk.sign (h : DifOk w a n cap zs p inc a2 n2 cap2 ys q jnc S L) {t : Nat} (ht : t ≤ 1048576) :
    (0 < dC zs p inc ys q jnc t ↔ 0 < atC zs p inc t - atC ys q jnc t) ∧ (dC zs p inc ys q jnc t = 0 ↔ atC zs p inc t - atC ys q jnc t = 0) := by
  obtain ⟨h1, h2⟩ := dC_sign h.g h.k ht
  exact ⟨by rw [h1]; omega, by rw [h2]; omega⟩
theorem DifOk.exact (h : DifOk w a n cap zs p inc a2 n2 cap2 ys q jnc S L) (hc : ¬ growC zs p inc ys q jnc L = 0) (t : Nat) : dC zs p inc ys q jnc t = atC zs p inc t - atC ys q jnc t :=
  dC_fin (growC_ne h.g h.k hc).1 (growC_ne h.g h.k hc).2 t
end

theorem diff_at (a : Option Addr) (n cap : Nat) (zs : List Int) (p : Nat) (inc : Int) (a2 : Option Addr) (n2 cap2 : Nat) (ys : List Int) (q : Nat) (jnc : Int) (S L : Nat) (c : Int) (w : World) (h : DifOk w a n cap zs p inc a2 n2 cap2 ys q jnc S L)
    (ti : Int) (t : Nat) (hti : ti = t) (ht : t ≤ 1048576) (v : Int) (hv : atC zs p inc t - atC ys q jnc t = v) :
    Calls Try.prog 136 #[difV a n cap p inc a2 n2 cap2 q jnc S L c, .int .i64 ti] w (Says (.int .i64 v) w) :=
  dat_at a n cap zs p inc h.g a2 n2 cap2 ys q jnc h.k S L c ti t hti ht v hv w h.r h.r2

/-- The tick behind the last disturbing one before the start. -/
def LastB (f : Nat → Bool) (S : Nat) (w : World) (e : Ending) (w' : World) : Prop :=
  ∃ T : Nat, T ≤ S ∧ (∀ u, u < S → T ≤ u → f u = false) ∧ (T = 0 ∨ f (T - 1) = true) ∧ e = .returned (.int .i64 T) ∧ Below w.heap.size w w'

set_option maxRecDepth 100000 in
set_option maxHeartbeats 3200000 in
theorem settledBefore_any (fid : FuncId) (pr : Int → Bool) (eg : ∀ (args : Array Value) (w : World), (callFunc fid args).run Try.prog w = .ok (.enter fid args) w)
    (hP : ∀ (v : Int) (b : Bool) (w : World), pr v = b → Calls Try.prog fid #[.int .i64 v] w fun e w' => e = .returned (.bool b) ∧ w = w')
    (a : Option Addr) (n cap : Nat) (zs : List Int) (p : Nat) (inc : Int) (a2 : Option Addr) (n2 cap2 : Nat) (ys : List Int) (q : Nat) (jnc : Int) (S L : Nat) (c : Int) (w : World) (h : DifOk w a n cap zs p inc a2 n2 cap2 ys q jnc S L) :
    Calls Try.prog 134 #[difV a n cap p inc a2 n2 cap2 q jnc S L c, .func (.func fid) #[] #[]] w (LastB (fun u => pr (atC zs p inc u - atC ys q jnc u)) S w) := by
  have hB := box_below w (.cells #[.slice a n cap, .int .i64 p, .int .i64 inc, .slice a2 n2 cap2, .int .i64 q, .int .i64 jnc, .int .i64 S, .int .i64 L, .int .i64 c] 125)
  have HBl := Lib.hid hB
  have H := Lib.hid (h.under hB)
  have KD := Lib.hid (dif_new w (.slice a n cap) (.int .i64 p) (.int .i64 inc) (.slice a2 n2 cap2) (.int .i64 q) (.int .i64 jnc) (.int .i64 S) (.int .i64 L) (.int .i64 c) 125)
  obtain ⟨hS, hL1, hL2⟩ := h.small
  have HPR := Lib.hid hP
  clear h hB hP
  go_enter Try.func134, Try.ntmps134
  go_wp2_with fail
  generalize w.alloc (.cells #[.slice a n cap, .int .i64 p, .int .i64 inc, .slice a2 n2 cap2, .int .i64 q, .int .i64 jnc, .int .i64 S, .int .i64 L, .int .i64 c] 125) = w0 at HBl H KD ⊢
  go_loopw [5, 9] (fun s5 s9 wx => ∃ (r T : Nat), s9 = .int .i64 r ∧ s5 = .int .i64 T ∧ r ≤ S ∧ T ≤ r ∧ Hid (∀ u, u < r → T ≤ u → pr (atC zs p inc u - atC ys q jnc u) = false) ∧ Hid (T = 0 ∨ pr (atC zs p inc (T - 1) - atC ys q jnc (T - 1)) = true) ∧ Hid (Below w0.heap.size w0 wx)) (fun _ s9 _ => S - (intOf s9).toNat)
  case atStart => exact ⟨0, 0, by go_num, by go_num, by omega, by omega, fun u hu => absurd hu (Nat.not_lt_zero _), .inl rfl, Below.refl _ _⟩
  case round =>
    obtain ⟨r, T, rfl, rfl, hr, hT, HU, HT, HX⟩ := hrel
    obtain ⟨w1, rfl⟩ : ∃ u : World, u = wr := ⟨_, rfl⟩
    obtain ⟨⟨c0, c1, c2, f0, f1, f2⟩, c3, c4, c5, c6, c7, c8, f3, f4, f5, f6, f7, f8⟩ := KD.out.below HX.out
    by_cases hlt : r < S
    · have hlt' : (r : Int) < (S : Int) := by omega
      obtain ⟨v, hv⟩ : ∃ v, atC zs p inc r - atC ys q jnc r = v := ⟨_, rfl⟩
      obtain ⟨b, hb⟩ : ∃ b, pr v = b := ⟨_, rfl⟩
      have HV := Lib.hid hv
      have HB := Lib.hid hb
      have hvb : pr (atC zs p inc r - atC ys q jnc r) = b := by rw [hv, hb]
      have HVB := Lib.hid hvb
      clear hv hb hvb
      go_wp2_with fail
      clear c0 c1 c2 c3 c4 c5 c6 c7 c8 f0 f1 f2 f3 f4 f5 f6 f7 f8
      refine (diff_at a n cap zs p inc a2 n2 cap2 ys q jnc S L c _ (H.out.under HX.out) r r rfl (by omega) v HV.out).mono ?_
      rintro e w2 ⟨rfl, hb2⟩
      have HX2 := Lib.hid (HX.out.trans (hb2.mono HX.out.size))
      clear hb2
      obtain ⟨⟨c0, c1, c2, f0, f1, f2⟩, c3, c4, c5, c6, c7, c8, f3, f4, f5, f6, f7, f8⟩ := KD.out.below HX2.out
      go_wp2_with fail
      refine (HPR.out v b _ HB.out).mono ?_
      rintro e w3 ⟨rfl, rfl⟩
      cases b with
      | true =>
        go_wp2_with fail
        exact ⟨⟨r + 1, r + 1, by go_num, by go_num, by omega, by omega, fun u hu hu2 => by omega, .inr HVB.out, HX2⟩, by simp [intOf]; omega⟩
      | false =>
        go_wp2_with fail
        exact ⟨⟨r + 1, T, by go_num, rfl, by omega, by omega, fun u hu hu2 => by
          by_cases he : u = r
          · subst he; exact HVB.out
          · exact HU.out u (by omega) hu2, HT, HX2⟩, by simp [intOf]; omega⟩
    · obtain rfl : r = S := by omega
      have hlt' : ¬ (r : Int) < (r : Int) := by omega
      go_wp2_with fail
      go_ret
      exact ⟨T, hT, HU.out, HT.out, rfl, HBl.out.trans (HX.out.mono HBl.out.size)⟩

theorem settles1_any (v : Int) (b : Bool) (w : World) (hb : decide (0 < v) = b) : Calls Try.prog 135 #[.int .i64 v] w fun e w' => e = .returned (.bool b) ∧ w = w' := by
  go_enter Try.func135, Try.ntmps135
  go_wp2
  go_ret
  exact ⟨rfl, rfl⟩
end Go.Proofs.Ytknimlpdpgpliaa

namespace Go.Proofs.Ytknimlpdpgpliaa
open Go.RowKit
set_option linter.unusedSimpArgs false

/-- A tick, whether there is one, and an error code. -/
def Tick3 (t : Int) (ok : Bool) (e : Int) (w : World) (en : Ending) (w' : World) : Prop := en = .returned (.tuple #[.int .i64 t, .bool ok, .int .i64 e]) ∧ Below w.heap.size w w'

section
variable (a : Option Addr) (n cap : Nat) (zs : List Int) (p inc : Int) (hp : In64 p) (hi : In64 inc) (a2 : Option Addr) (n2 cap2 : Nat) (ys : List Int) (q jnc : Int) (hq : In64 q) (hj : In64 jnc)
    (hv : okC zs p inc = false ∨ okC ys q jnc = false) (w : World) (h : RowZ w a n cap zs) (h2 : RowZ w a2 n2 cap2 ys)
theorem two_boxes (w : World) (o o2 : Obj) : Below w.heap.size w ((w.alloc o).alloc o2) := ((Below.refl _ _).alloc (Nat.le_refl _) _).alloc (by simp) _

include hp hi hq hj hv h h2
end

section
variable (a : Option Addr) (n cap : Nat) (zs : List Int) (p : Nat) (inc : Int) (g : Good zs p inc) (a2 : Option Addr) (n2 cap2 : Nat) (ys : List Int) (q : Nat) (jnc : Int) (k : Good ys q jnc) (t : Int) (ok : Bool)
    (w : World) (h : RowZ w a n cap zs) (h2 : RowZ w a2 n2 cap2 ys)

include g k h h2
set_option maxHeartbeats 3200000 in
theorem settles_ok (hE : SetP (dC zs p inc ys q jnc) t ok) : Calls Try.prog 78 #[curV a n cap p inc, curV a2 n2 cap2 q jnc] w (Tick3 t ok 0 w) := by
  have hB := two_boxes w (.cells #[.slice a n cap, .int .i64 p, .int .i64 inc] 26) (.cells #[.slice a2 n2 cap2, .int .i64 q, .int .i64 jnc] 26)
  have HBl := Lib.hid hB
  obtain ⟨S, hS⟩ : ∃ S, max (n - p) (n2 - q) = S := ⟨_, rfl⟩
  obtain ⟨L, hL⟩ : ∃ L, p / Nat.gcd p q * q = L := ⟨_, rfl⟩
  obtain ⟨c, hc⟩ : ∃ c, growC zs p inc ys q jnc L = c := ⟨_, rfl⟩
  have hD : DifOk w a n cap zs p inc a2 n2 cap2 ys q jnc S L := ⟨g, k, h, h2, hS, hL⟩
  have H := Lib.hid (hD.under hB)
  have hPer := hD.per
  rw [hc] at hPer
  have HP := Lib.hid hPer
  obtain ⟨hS1, hL1, hL2⟩ := hD.small
  have hEX := hD.exact
  rw [hc] at hEX
  have HEX := Lib.hid hEX
  have hne := growC_ne (L := L) g k
  rw [hc] at hne
  have HNE := Lib.hid hne
  have hcb : -(14400 * 1073741824) ≤ c := by
    by_cases h0 : c = 0
    · omega
    · obtain ⟨l1, e1⟩ : ∃ l, L / p = l := ⟨_, rfl⟩
      obtain ⟨l2, e2⟩ : ∃ l, L / q = l := ⟨_, rfl⟩
      have h3 : l2 ≤ L := by rw [← e2]; exact Nat.div_le_self _ _
      have h5 : (l2 : Int) * jnc ≤ 14400 * 1073741824 := Int.mul_le_mul (by omega) k.i1 k.i0 (by omega)
      have h6 : 0 ≤ (l1 : Int) * inc := Int.mul_nonneg (by omega) g.i0
      have h4 := growC_fin (p := p) (q := q) (inc := inc) (jnc := jnc) (hne h0).1 (hne h0).2 (L := L)
      rw [e1, e2, hc] at h4
      omega
  have HE := Lib.hid hE
  have HC := Lib.hid hc
  clear h h2 hB hS hL hc hD hPer hE g k hEX hne
  go_enter Try.func78, Try.ntmps78
  go_wp2_with fail
  refine (sub_ok a n cap zs p inc H.out.g a2 n2 cap2 ys q jnc H.out.k S L c H.out.s H.out.l HC.out _ H.out.r H.out.r2).mono ?_
  rintro e w1 ⟨rfl, hb⟩
  have HB2 := Lib.hid ((HBl.out.trans (hb.mono HBl.out.size)).alloc (HBl.out.trans (hb.mono HBl.out.size)).size (.cells #[.slice a n cap, .int .i64 p, .int .i64 inc, .slice a2 n2 cap2, .int .i64 q, .int .i64 jnc, .int .i64 S, .int .i64 L, .int .i64 c] 125))
  have H2 := Lib.hid ((H.out.under hb).under (box_below w1 (.cells #[.slice a n cap, .int .i64 p, .int .i64 inc, .slice a2 n2 cap2, .int .i64 q, .int .i64 jnc, .int .i64 S, .int .i64 L, .int .i64 c] 125)))
  have KE := Lib.hid (dif_new w1 (.slice a n cap) (.int .i64 p) (.int .i64 inc) (.slice a2 n2 cap2) (.int .i64 q) (.int .i64 jnc) (.int .i64 S) (.int .i64 L) (.int .i64 c) 125)
  clear hb H
  by_cases hc0 : 0 < c
  · go_wp2_with fail
    obtain ⟨rfl, rfl⟩ := HE.out.unique (set_up HP.out hL1 hc0)
    exact bodyPost_ret (v := .tuple #[.int .i64 0, .bool false, .int .i64 0]) (by simp [results, Try.results78, go_sem]) rfl ⟨rfl, HB2.out⟩
  · have hc1 : c ≤ 0 := by omega
    go_wp2_with fail
    refine (settledBefore_any 135 (fun v => decide (0 < v)) (enters_of Try.func135 (by kernel_rfl) rfl) (fun v b w hb => settles1_any v b w hb) a n cap zs p inc a2 n2 cap2 ys q jnc S L c _ H2.out).mono ?_
    rintro e w3 ⟨T0, hT0, hT1, hT2, rfl, hb⟩
    have hI0 : SetI (dC zs p inc ys q jnc) S L 0 T0 := SetI.start (fun u hu ht => by
        have h1 := hT1 u hu ht
        have h2 := (H2.out.sign (t := u) (by omega)).1
        rw [h2]; simpa using h1) (hT2.imp id fun h3 => by
        rw [(H2.out.sign (t := T0 - 1) (by omega)).1]; simpa using h3)
    have HI0 := Lib.hid hI0
    generalize hw2 : w1.alloc (.cells #[.slice a n cap, .int .i64 p, .int .i64 inc, .slice a2 n2 cap2, .int .i64 q, .int .i64 jnc, .int .i64 S, .int .i64 L, .int .i64 c] 125) = w2 at HB2 H2 KE hb
    clear hw2
    have H3 := Lib.hid (H2.out.under hb)
    have KE3 := Lib.hid (KE.out.below hb)
    have HB3 := Lib.hid (HB2.out.trans (hb.mono HB2.out.size))
    obtain ⟨⟨c0, c1, c2, f0, f1, f2⟩, c3, c4, c5, c6, c7, c8, f3, f4, f5, f6, f7, f8⟩ := KE3.out
    clear hb hT1 hT2 hI0 H2 KE HB2
    go_wp2_with fail
    clear c0 c1 c2 c3 c4 c5 c6 c7 c8 f0 f1 f2 f3 f4 f5 f6 f7 f8
    go_loopw [9, 30] (fun s9 s30 wx => ∃ (r T : Nat), s30 = .int .i64 r ∧ s9 = .int .i64 T ∧ r ≤ L ∧ T ≤ 400000000000000000 ∧ Hid (SetI (dC zs p inc ys q jnc) S L r T) ∧ Hid (Below w3.heap.size w3 wx)) (fun _ s30 _ => L - (intOf s30).toNat)
    case atStart => exact ⟨0, T0, by go_num, rfl, by omega, by omega, HI0, Below.refl _ _⟩
    case round =>
      obtain ⟨r, T, rfl, rfl, hr, hT, HI, HX⟩ := hrel
      obtain ⟨w4, rfl⟩ : ∃ u : World, u = wr := ⟨_, rfl⟩
      obtain ⟨⟨c0, c1, c2, f0, f1, f2⟩, c3, c4, c5, c6, c7, c8, f3, f4, f5, f6, f7, f8⟩ := KE3.out.below HX.out
      by_cases hlt : r < L
      · have hlt' : (r : Int) < (L : Int) := by omega
        obtain ⟨j, hj⟩ : ∃ j, S + r = j := ⟨_, rfl⟩
        have qj : (S : Int) + (r : Int) = (j : Int) := by omega
        have hjb : j ≤ 20000 := by omega
        obtain ⟨v, hv⟩ : ∃ v, atC zs p inc j - atC ys q jnc j = v := ⟨_, rfl⟩
        have hsg := (H3.out.sign (t := j) (by omega)).1
        have hvb := dif_bd H3.out.g H3.out.k (t := j) (by omega)
        rw [hv] at hsg hvb
        obtain ⟨hvb1, hvb2⟩ := hvb
        have HV := Lib.hid hv
        have HS := Lib.hid hsg
        have HJ := Lib.hid hj
        clear hv hsg hj
        go_wp2_with fail
        clear c0 c1 c2 c3 c4 c5 c6 c7 c8 f0 f1 f2 f3 f4 f5 f6 f7 f8
        refine (diff_at a n cap zs p inc a2 n2 cap2 ys q jnc S L c _ (H3.out.under HX.out) j j rfl (by omega) v HV.out).mono ?_
        rintro e w5 ⟨rfl, hb⟩
        have HX2 := Lib.hid (HX.out.trans (hb.mono HX.out.size))
        clear hb
        obtain ⟨⟨c0, c1, c2, f0, f1, f2⟩, c3, c4, c5, c6, c7, c8, f3, f4, f5, f6, f7, f8⟩ := KE3.out.below HX2.out
        by_cases hpos : v ≤ 0
        · go_wp2_with fail
          exact ⟨⟨r + 1, T, by go_num, rfl, by omega, hT, HI.out.skip HP.out hc1 (by rw [HJ.out]; have := HS.out; omega), HX2⟩, by simp [intOf]; omega⟩
        · have hpos2 : 0 < v := by omega
          by_cases hcz : c = 0
          · subst hcz
            go_wp2_with fail
            obtain ⟨rfl, rfl⟩ := HE.out.unique (set_stay HP.out hL1 (r := r) (by rw [HJ.out]; exact HS.out.2 hpos2))
            exact bodyPost_ret (v := .tuple #[.int .i64 0, .bool false, .int .i64 0]) (by simp [results, Try.results78, go_sem]) rfl ⟨rfl, HB3.out.trans (HX2.out.mono HB3.out.size)⟩
          · have hcn : c < 0 := by omega
            have hdv : dC zs p inc ys q jnc j = v := by rw [HEX.out hcz, HV.out]
            have hv3 : v ≤ 1073741824 * 20001 := by
              have h1 := (H3.out.g.bd (HNE.out hcz).1 j).2
              have h2 := H3.out.k.nonneg j
              have := HV.out
              omega
            obtain ⟨m, hm⟩ : ∃ m, (v - 1) / (-c) = m := ⟨_, rfl⟩
            have hm0 : 0 ≤ m := by rw [← hm]; exact Int.ediv_nonneg (by omega) (by omega)
            have hm1 : m ≤ v - 1 := by rw [← hm]; exact Int.ediv_le_self _ (by omega)
            have hcw : IntKind.i64.wrap (-c) = -c := IntWalk.i64_in _ ⟨by omega, by omega⟩
            have hmt : (v - 1).tdiv (-c) = m := by rw [Int.tdiv_eq_ediv_of_nonneg (by omega)]; exact hm
            obtain ⟨P, hP⟩ : ∃ P, m * (L : Int) = P := ⟨_, rfl⟩
            have hPb : 0 ≤ P ∧ P ≤ (1073741824 * 20001) * 14400 := by
              rw [← hP]; exact ⟨Int.mul_nonneg (by omega) (by omega), Int.mul_le_mul (by omega) (by omega) (by omega) (by omega)⟩
            obtain ⟨hP0, hP1⟩ := hPb
            have hPw : IntKind.i64.wrap (m * (L : Int)) = P := by rw [hP]; exact IntWalk.i64_in _ ⟨by omega, by omega⟩
            have hst : ∀ T' : Nat, (T' : Int) = max (T : Int) ((j : Int) + P + 1) → SetI (dC zs p inc ys q jnc) S L (r + 1) T' := fun T' hT' => by
              refine HI.out.fall HP.out hL1 hcn (by rw [HJ.out]; exact HS.out.2 hpos2) ?_
              rw [HJ.out, hdv, hm, hP]; exact hT'
            have HST := Lib.hid hst
            have hcn2 : ¬ -c = 0 := by omega
            clear hdv hst
            obtain ⟨X, hX⟩ : ∃ X : Nat, (X : Int) = (j : Int) + P + 1 := ⟨((j : Int) + P + 1).toNat, by omega⟩
            have hX2 : (j : Int) + P = (X : Int) - 1 := by omega
            have hXb : X ≤ 400000000000000000 := by omega
            have HXX := Lib.hid hX
            clear hX
            by_cases hmx : T < X
            · have hmx2 : (T : Int) < (X : Int) := by omega
              go_wp2_with fail
              exact ⟨⟨r + 1, X, by go_num, rfl, by omega, hXb, HST.out X (by have := HXX.out; omega), HX2⟩, by simp [intOf]; omega⟩
            · have hmx2 : ¬ (T : Int) < (X : Int) := by omega
              go_wp2_with fail
              exact ⟨⟨r + 1, T, by go_num, rfl, by omega, hT, HST.out T (by have := HXX.out; omega), HX2⟩, by simp [intOf]; omega⟩
      · obtain rfl : r = L := by omega
        have hlt' : ¬ (r : Int) < (r : Int) := by omega
        go_wp2_with fail
        obtain ⟨rfl, rfl⟩ := HE.out.unique (HI.out.done hL1)
        exact bodyPost_ret (v := .tuple #[.int .i64 T, .bool true, .int .i64 0]) (by simp [results, Try.results78, go_sem]) rfl ⟨rfl, HB3.out.trans (HX.out.mono HB3.out.size)⟩

end
end Go.Proofs.Ytknimlpdpgpliaa

namespace Go.Proofs.Ytknimlpdpgpliaa
open Go.RowKit
set_option linter.unusedSimpArgs false

end Go.Proofs.Ytknimlpdpgpliaa

namespace Go.Proofs.Ytknimlpdpgpliaa
open Go.RowKit
set_option linter.unusedSimpArgs false

/-- b says whether P holds. -/
def IffB (b : Bool) (P : Prop) : Prop := b = true ↔ P
theorem IffB.get {P : Prop} (h : IffB true P) : P := h.1 rfl

/-- Three numbers, in a later world. -/
def Nums3 (x y z : Int) (w : World) (en : Ending) (w' : World) : Prop := en = .returned (.tuple #[.int .i64 x, .int .i64 y, .int .i64 z]) ∧ Below w.heap.size w w'

set_option maxRecDepth 100000 in
set_option maxHeartbeats 3200000 in
theorem window_any (a : Option Addr) (n cap : Nat) (zs : List Int) (p : Nat) (inc : Int) (g : Good zs p inc) (a2 : Option Addr) (n2 cap2 : Nat) (ys : List Int) (q : Nat) (jnc : Int) (k : Good ys q jnc) (m L : Nat) (G : Int)
    (hm : max n n2 = m) (hL : p / Nat.gcd p q * q = L) (hG : ((L / p : Nat) : Int) * inc - ((L / q : Nat) : Int) * jnc = G) (w : World) (h : RowZ w a n cap zs) (h2 : RowZ w a2 n2 cap2 ys) :
    Calls Try.prog 143 #[curV a n cap p inc, curV a2 n2 cap2 q jnc] w (Nums3 m L G w) := by
  have hB := two_boxes w (.cells #[.slice a n cap, .int .i64 p, .int .i64 inc] 26) (.cells #[.slice a2 n2 cap2, .int .i64 q, .int .i64 jnc] 26)
  have HBl := Lib.hid hB
  have T0 := Lib.hid (show Two ((w.alloc (.cells #[.slice a n cap, .int .i64 p, .int .i64 inc] 26)).alloc (.cells #[.slice a2 n2 cap2, .int .i64 q, .int .i64 jnc] 26)) w.heap.size a n cap p inc zs (w.heap.size + 1) a2 n2 cap2 q jnc ys from
    ⟨(Cur3.new w (.slice a n cap) (.int .i64 p) (.int .i64 inc) 26).alloc _, h.under hB, Cur3.new2 w _ _ _ _ _, h2.under hB⟩)
  have hgp1 := g.p1; have hgp2 := g.p2; have hgi0 := g.i0; have hgi1 := g.i1
  have hkp1 := k.p1; have hkp2 := k.p2; have hki0 := k.i0; have hki1 := k.i1
  have hLL := lcm_of hgp1 hkp1 hL
  have hLb : L ≤ 14400 := Nat.le_trans hLL.le (Nat.mul_le_mul hgp2 hkp2)
  have HL := Lib.hid hL
  have hn3 := h.sm
  have hn4 := h2.sm
  obtain ⟨lp, hlp⟩ : ∃ l, L / p = l := ⟨_, rfl⟩
  obtain ⟨lq, hlq⟩ : ∃ l, L / q = l := ⟨_, rfl⟩
  have hlp2 : lp ≤ L := by rw [← hlp]; exact Nat.div_le_self _ _
  have hlq2 : lq ≤ L := by rw [← hlq]; exact Nat.div_le_self _ _
  rw [hlp, hlq] at hG
  obtain ⟨X1, hX1⟩ : ∃ x, (lp : Int) * inc = x := ⟨_, rfl⟩
  obtain ⟨X2, hX2⟩ : ∃ x, (lq : Int) * jnc = x := ⟨_, rfl⟩
  have hX1b : 0 ≤ X1 ∧ X1 ≤ 14400 * 1073741824 := by
    rw [← hX1]; exact ⟨Int.mul_nonneg (by omega) hgi0, Int.mul_le_mul (by omega) hgi1 hgi0 (by omega)⟩
  have hX2b : 0 ≤ X2 ∧ X2 ≤ 14400 * 1073741824 := by
    rw [← hX2]; exact ⟨Int.mul_nonneg (by omega) hki0, Int.mul_le_mul (by omega) hki1 hki0 (by omega)⟩
  rw [hX1, hX2] at hG
  have q3 : (L : Int).tdiv (p : Int) = (lp : Int) := by rw [← hlp]; rfl
  have q4 : (L : Int).tdiv (q : Int) = (lq : Int) := by rw [← hlq]; rfl
  have q3' : (L : Int) / (p : Int) = (lp : Int) := by rw [← hlp]; rfl
  have q4' : (L : Int) / (q : Int) = (lq : Int) := by rw [← hlq]; rfl
  have q5 : IntKind.i64.wrap (lp : Int) = (lp : Int) := IntWalk.i64_in _ ⟨by omega, by omega⟩
  have q6 : IntKind.i64.wrap (lq : Int) = (lq : Int) := IntWalk.i64_in _ ⟨by omega, by omega⟩
  have q7 : IntKind.i64.wrap (inc * (lp : Int)) = X1 := by rw [Int.mul_comm, hX1]; exact IntWalk.i64_in _ ⟨by omega, by omega⟩
  have q8 : IntKind.i64.wrap (jnc * (lq : Int)) = X2 := by rw [Int.mul_comm, hX2]; exact IntWalk.i64_in _ ⟨by omega, by omega⟩
  have q9 : IntKind.i64.wrap (X1 - X2) = G := by rw [hG]; exact IntWalk.i64_in _ ⟨by omega, by omega⟩
  have q10 : ¬ p = 0 := by omega
  have q11 : ¬ q = 0 := by omega
  have q12 : ¬ (p : Int) = 0 := by omega
  have q13 : ¬ (q : Int) = 0 := by omega
  have hcmp : (n2 ≤ n ∧ n = m) ∨ (n < n2 ∧ n2 = m) := by omega
  clear h h2 hB hL hLL hG hlp hlq hX1 hX2 hm g k
  rcases hcmp with ⟨h12, hme⟩ | ⟨h12, hme⟩
  all_goals subst hme
  all_goals go_enter Try.func143, Try.ntmps143
  all_goals go_wp2_with fail
  · have h12' : (n2 : Int) ≤ (n : Int) := by omega
    have hd12 : decide (n < n2) = false := by simp; omega
    have hd13 : ¬ n < n2 := by omega
    generalize (w.alloc (.cells #[.slice a n cap, .int .i64 p, .int .i64 inc] 26)).alloc (.cells #[.slice a2 n2 cap2, .int .i64 q, .int .i64 jnc] 26) = w0 at HBl T0 ⊢
    have KD := Lib.hid (fun (u : World) (hu : Below w0.heap.size w0 u) => (show Two6 w0 w.heap.size a n cap p inc zs (w.heap.size + 1) a2 n2 cap2 q jnc ys u from two6_s (T0.out.under hu) hu))
    have hb0 := Lib.hid (Below.refl w0.heap.size w0).drew
    go_region_held3 (fun u => Two6 w0 w.heap.size a n cap p inc zs (w.heap.size + 1) a2 n2 cap2 q jnc ys u)
      (first | with_reducible exact KD.out _ hb0.out | with_reducible exact KD.out _ hbz.out)
      (first | (go_at_call 146; refine (lcm_at p q L HL.out hgp1 (by omega) hkp1 (by omega) _).mono ?_; rintro e w1 ⟨rfl, hd0⟩; have hbz := Lib.hid (below_dr (Below.refl w0.heap.size w0).drew hd0); clear hd0))
    all_goals
      have T1 := Lib.hid (T0.out.under hbz.out)
      have HB1 := Lib.hid (HBl.out.trans (hbz.out.mono HBl.out.size))
      clear T0
      obtain ⟨c0, c1, c2, f0, f1, f2⟩ := T1.out.bx
      obtain ⟨d0, d1, d2, g0, g1, g2⟩ := T1.out.by'
      go_wp2_with fail
      go_quiet (fail)
      go_wp2_with fail
      exact bodyPost_ret (v := .tuple #[.int .i64 n, .int .i64 L, .int .i64 G]) (by simp [results, Try.results143, go_sem]) rfl ⟨rfl, HB1.out.drewN _⟩
  · have h12' : (n : Int) < (n2 : Int) := by omega
    have hd12 : decide (n < n2) = true := by simp; omega
    generalize (w.alloc (.cells #[.slice a n cap, .int .i64 p, .int .i64 inc] 26)).alloc (.cells #[.slice a2 n2 cap2, .int .i64 q, .int .i64 jnc] 26) = w0 at HBl T0 ⊢
    have KD := Lib.hid (fun (u : World) (hu : Below w0.heap.size w0 u) => (show Two6 w0 w.heap.size a n cap p inc zs (w.heap.size + 1) a2 n2 cap2 q jnc ys u from two6_s (T0.out.under hu) hu))
    have hb0 := Lib.hid (Below.refl w0.heap.size w0).drew
    go_region_held3 (fun u => Two6 w0 w.heap.size a n cap p inc zs (w.heap.size + 1) a2 n2 cap2 q jnc ys u)
      (first | with_reducible exact KD.out _ hb0.out | with_reducible exact KD.out _ hbz.out)
      (first | (go_at_call 146; refine (lcm_at p q L HL.out hgp1 (by omega) hkp1 (by omega) _).mono ?_; rintro e w1 ⟨rfl, hd0⟩; have hbz := Lib.hid (below_dr (Below.refl w0.heap.size w0).drew hd0); clear hd0))
    all_goals
      have T1 := Lib.hid (T0.out.under hbz.out)
      have HB1 := Lib.hid (HBl.out.trans (hbz.out.mono HBl.out.size))
      clear T0
      obtain ⟨c0, c1, c2, f0, f1, f2⟩ := T1.out.bx
      obtain ⟨d0, d1, d2, g0, g1, g2⟩ := T1.out.by'
      go_wp2_with fail
      go_quiet (fail)
      go_wp2_with fail
      exact bodyPost_ret (v := .tuple #[.int .i64 n2, .int .i64 L, .int .i64 G]) (by simp [results, Try.results143, go_sem]) rfl ⟨rfl, HB1.out.drewN _⟩

/-- The document's difference of two values. -/
def abV (x y : Int) : Int := if x = infV ∨ y = infV then (if y = infV then 0 else 1) else x - y
theorem abV_hi {x y : Int} (hy : y = infV) : abV x y = 0 := by unfold abV; rw [if_pos (.inr hy), if_pos hy]
theorem abV_up {x y : Int} (hx : x = infV) (hy : ¬ y = infV) : abV x y = 1 := by unfold abV; rw [if_pos (.inl hx), if_neg hy]
theorem abV_no {x y : Int} (hx : ¬ x = infV) (hy : ¬ y = infV) : abV x y = x - y := by unfold abV; rw [if_neg (fun h => h.elim hx hy)]

theorem ab_sign {zs ys : List Int} {p q : Nat} {inc jnc : Int} (g : Good zs p inc) (k : Good ys q jnc) {t : Nat} (ht : t ≤ 1048576) : 0 < abV (atC zs p inc t) (atC ys q jnc t) ↔ 0 < dC zs p inc ys q jnc t := by
  rw [(dC_sign g k ht).1]
  obtain ⟨b1, b2⟩ := at_bd g ht
  obtain ⟨b3, b4⟩ := at_bd k ht
  generalize atC zs p inc t = x at *
  generalize atC ys q jnc t = y at *
  by_cases hy : y = infV
  · rw [abV_hi hy, hy]; unfold infV; omega
  · by_cases hx : x = infV
    · rw [abV_up hx hy, hx]; unfold infV at *; omega
    · rw [abV_no hx hy]; omega
theorem ab_exact {zs ys : List Int} {p q : Nat} {inc jnc : Int} (g : Good zs p inc) (k : Good ys q jnc) (h1 : ¬ InfC zs) (h2 : ¬ InfC ys) {t : Nat} (ht : t ≤ 1048576) : abV (atC zs p inc t) (atC ys q jnc t) = dC zs p inc ys q jnc t := by
  rw [dC_fin h1 h2, abV_no (fun h => h1 (g.inf_at (t := t) (by omega) h)) (fun h => h2 (k.inf_at (t := t) (by omega) h))]
set_option maxRecDepth 100000 in
set_option maxHeartbeats 3200000 in
theorem above_at (a : Option Addr) (n cap : Nat) (zs : List Int) (p : Nat) (inc : Int) (g : Good zs p inc) (a2 : Option Addr) (n2 cap2 : Nat) (ys : List Int) (q : Nat) (jnc : Int) (k : Good ys q jnc)
    (ti : Int) (t : Nat) (hti : ti = t) (ht : t ≤ 1048576) (v : Int) (hv : abV (atC zs p inc t) (atC ys q jnc t) = v) (w : World) (h : RowZ w a n cap zs) (h2 : RowZ w a2 n2 cap2 ys) :
    Calls Try.prog 144 #[curV a n cap p inc, curV a2 n2 cap2 q jnc, .int .i64 ti] w (Says (.int .i64 v) w) := by
  subst hti
  have hB := two_boxes w (.cells #[.slice a n cap, .int .i64 p, .int .i64 inc] 26) (.cells #[.slice a2 n2 cap2, .int .i64 q, .int .i64 jnc] 26)
  have HBl := Lib.hid hB
  have T0 := Lib.hid (show Two ((w.alloc (.cells #[.slice a n cap, .int .i64 p, .int .i64 inc] 26)).alloc (.cells #[.slice a2 n2 cap2, .int .i64 q, .int .i64 jnc] 26)) w.heap.size a n cap p inc zs (w.heap.size + 1) a2 n2 cap2 q jnc ys from
    ⟨(Cur3.new w (.slice a n cap) (.int .i64 p) (.int .i64 inc) 26).alloc _, h.under hB, Cur3.new2 w _ _ _ _ _, h2.under hB⟩)
  obtain ⟨b1, b2⟩ := at_bd g ht
  obtain ⟨b3, b4⟩ := at_bd k ht
  obtain ⟨x, hx⟩ : ∃ x, atC zs p inc t = x := ⟨_, rfl⟩
  obtain ⟨y, hy⟩ : ∃ y, atC ys q jnc t = y := ⟨_, rfl⟩
  rw [hx] at b1 b2 hv
  rw [hy] at b3 b4 hv
  have HG := Lib.hid g
  have HK := Lib.hid k
  have HX := Lib.hid hx
  have HY := Lib.hid hy
  have HV := Lib.hid hv
  clear h h2 hB g k hx hy hv
  go_enter Try.func144, Try.ntmps144
  go_wp2_with fail
  generalize (w.alloc (.cells #[.slice a n cap, .int .i64 p, .int .i64 inc] 26)).alloc (.cells #[.slice a2 n2 cap2, .int .i64 q, .int .i64 jnc] 26) = w0 at HBl T0 ⊢
  go_region_held3 (fun u => Two6 w0 w.heap.size a n cap p inc zs (w.heap.size + 1) a2 n2 cap2 q jnc ys u)
    (first | with_reducible exact two6_drew T0.out | with_reducible exact two6_call (by assumption) hbx)
    (first
      | (go_at_call 31; ((with_reducible refine (rat_at a n cap zs p inc HG.out t t rfl (by omega) x HX.out _ (two6_of (by assumption)).rx).mono ?_); rintro e w1 ⟨rfl, hbx⟩))
      | (go_at_call 31; ((with_reducible refine (rat_at a2 n2 cap2 ys q jnc HK.out t t rfl (by omega) y HY.out _ (two6_of (by assumption)).ry).mono ?_); rintro e w2 ⟨rfl, hbx⟩)))
  have hT : Two6 w0 w.heap.size a n cap p inc zs (w.heap.size + 1) a2 n2 cap2 q jnc ys w2 := by assumption
  have HB2 := Lib.hid (HBl.out.trans ((two6_below hT).mono HBl.out.size))
  clear hT T0 HX HY
  by_cases hy : y = 4611686018427387904
  · have t1 : (y == 4611686018427387904) = true := by simpa using hy
    obtain rfl : v = 0 := by rw [← HV.out, abV_hi hy]
    clear hy
    by_cases hx : x = 4611686018427387904
    · have t2 : (x == 4611686018427387904) = true := by simpa using hx
      clear hx
      go_wp2_with fail
      go_ret
      exact ⟨rfl, HB2.out⟩
    · have t2 : (x == 4611686018427387904) = false := by simpa using hx
      clear hx
      go_wp2_with fail
      go_ret
      exact ⟨rfl, HB2.out⟩
  · have t1 : (y == 4611686018427387904) = false := by simpa using hy
    by_cases hx : x = 4611686018427387904
    · have t2 : (x == 4611686018427387904) = true := by simpa using hx
      obtain rfl : v = 1 := by rw [← HV.out, abV_up hx hy]
      clear hx hy
      go_wp2_with fail
      go_ret
      exact ⟨rfl, HB2.out⟩
    · have t2 : (x == 4611686018427387904) = false := by simpa using hx
      have hxy : x - y = v := by rw [← HV.out, abV_no hx hy]
      have HXY := Lib.hid hxy
      clear hx hy hxy
      go_wp2_with fail
      go_ret
      exact ⟨ret_int HXY.out, HB2.out⟩

/-- What the document's loop over the residue classes has found. -/
def MinJ (d : Nat → Int) (S L : Nat) (c : Int) (r : Nat) (x : Int) : Prop :=
  (r = 0 ∧ x = -1) ∨ (0 ≤ x ∧ (∀ s, s < r → x ≤ farT d S L c s) ∧ ∃ s, s < r ∧ x = farT d S L c s)
theorem MinJ.first {d : Nat → Int} {S L : Nat} {c : Int} {r : Nat} {x y : Int} (h : MinJ d S L c r x) (hy : farT d S L c r = y) (hx : x < 0) (hy0 : 0 ≤ y := by omega) : MinJ d S L c (r + 1) y := by
  rcases h with ⟨rfl, rfl⟩ | ⟨h0, _⟩
  · exact .inr ⟨hy0, fun s hs => by obtain rfl : s = 0 := by omega
                                    omega, 0, by omega, hy.symm⟩
  · omega
theorem MinJ.step {d : Nat → Int} {S L : Nat} {c : Int} {r : Nat} {x y z : Int} (h : MinJ d S L c r x) (hy : farT d S L c r = y) (hx : 0 ≤ x) (hz : z = min x y) (hy0 : 0 ≤ y := by omega) : MinJ d S L c (r + 1) z := by
  rcases h with ⟨rfl, rfl⟩ | ⟨h0, h1, s, hs, rfl⟩
  · omega
  · refine .inr ⟨by omega, fun u hu => ?_, ?_⟩
    · by_cases he : u = r
      · subst he; omega
      · have := h1 u (by omega); omega
    · by_cases hle : farT d S L c s ≤ y
      · exact ⟨s, by omega, by omega⟩
      · exact ⟨r, by omega, by omega⟩
theorem MinJ.last {d : Nat → Int} {S L : Nat} {c : Int} {x : Int} (h : MinJ d S L c L x) (hL : 1 ≤ L) : (∀ r, r < L → x ≤ farT d S L c r) ∧ ∃ r, r < L ∧ x = farT d S L c r := by
  rcases h with ⟨h0, _⟩ | ⟨_, h1, h2⟩
  · omega
  · exact ⟨h1, h2⟩

section
variable (a : Option Addr) (n cap : Nat) (zs : List Int) (p : Nat) (inc : Int) (g : Good zs p inc) (a2 : Option Addr) (n2 cap2 : Nat) (ys : List Int) (q : Nat) (jnc : Int) (k : Good ys q jnc) (t : Int) (ok : Bool)
    (w : World) (h : RowZ w a n cap zs) (h2 : RowZ w a2 n2 cap2 ys)
include g k h h2

set_option maxRecDepth 100000 in
set_option maxHeartbeats 6400000 in
theorem rexceeds_ok (hE : ExcP (dC zs p inc ys q jnc) t ok) : Calls Try.prog 84 #[curV a n cap p inc, curV a2 n2 cap2 q jnc] w (Tick3 t ok 0 w) := by
  have hB := two_boxes w (.cells #[.slice a n cap, .int .i64 p, .int .i64 inc] 26) (.cells #[.slice a2 n2 cap2, .int .i64 q, .int .i64 jnc] 26)
  have HBl := Lib.hid hB
  have T0 := Lib.hid (show Two ((w.alloc (.cells #[.slice a n cap, .int .i64 p, .int .i64 inc] 26)).alloc (.cells #[.slice a2 n2 cap2, .int .i64 q, .int .i64 jnc] 26)) w.heap.size a n cap p inc zs (w.heap.size + 1) a2 n2 cap2 q jnc ys from
    ⟨(Cur3.new w (.slice a n cap) (.int .i64 p) (.int .i64 inc) 26).alloc _, h.under hB, Cur3.new2 w _ _ _ _ _, h2.under hB⟩)
  obtain ⟨m, hm⟩ : ∃ m, max n n2 = m := ⟨_, rfl⟩
  obtain ⟨L, hL⟩ : ∃ L, p / Nat.gcd p q * q = L := ⟨_, rfl⟩
  obtain ⟨G, hG⟩ : ∃ G, ((L / p : Nat) : Int) * inc - ((L / q : Nat) : Int) * jnc = G := ⟨_, rfl⟩
  obtain ⟨c, hc⟩ : ∃ c, growC zs p inc ys q jnc L = c := ⟨_, rfl⟩
  have hLL := lcm_of g.p1 k.p1 hL
  have hL1 := hLL.one
  have hLb : L ≤ 14400 := Nat.le_trans hLL.le (Nat.mul_le_mul g.p2 k.p2)
  have hmb : m ≤ 400 := by have := g.few; have := k.few; have := h.len; have := h2.len; omega
  have hPer := dC_per g k hLL (show zs.length - p ≤ m by have := h.len; omega) (show ys.length - q ≤ m by have := h2.len; omega)
  rw [hc] at hPer
  have HP := Lib.hid hPer
  have hcf : ¬ InfC zs → ¬ InfC ys → c = G := fun i1 i2 => by rw [← hc, growC_fin i1 i2, hG]
  have hci : InfC zs ∨ InfC ys → c = 0 := fun i => by rw [← hc, growC_inf g k i]
  have HCF := Lib.hid (And.intro hcf hci)
  have hGb : -(14400 * 1073741824) ≤ G ∧ G ≤ 14400 * 1073741824 := by
    obtain ⟨lp, hlp⟩ : ∃ l, L / p = l := ⟨_, rfl⟩
    obtain ⟨lq, hlq⟩ : ∃ l, L / q = l := ⟨_, rfl⟩
    have hlp2 : lp ≤ L := by rw [← hlp]; exact Nat.div_le_self _ _
    have hlq2 : lq ≤ L := by rw [← hlq]; exact Nat.div_le_self _ _
    rw [hlp, hlq] at hG
    have e1 : 0 ≤ (lp : Int) * inc := Int.mul_nonneg (by omega) g.i0
    have e2 : 0 ≤ (lq : Int) * jnc := Int.mul_nonneg (by omega) k.i0
    have e3 : (lp : Int) * inc ≤ 14400 * 1073741824 := Int.mul_le_mul (by omega) g.i1 g.i0 (by omega)
    have e4 : (lq : Int) * jnc ≤ 14400 * 1073741824 := Int.mul_le_mul (by omega) k.i1 k.i0 (by omega)
    omega
  obtain ⟨hGb1, hGb2⟩ := hGb
  obtain ⟨M, hM⟩ : ∃ M, m + L = M := ⟨_, rfl⟩
  have qM : (m : Int) + (L : Int) = (M : Int) := by omega
  have hMb : M ≤ 20000 := by omega
  have HW := Lib.hid (And.intro hm (And.intro hL hG))
  have HMM := Lib.hid hM
  have HG := Lib.hid g
  have HK := Lib.hid k
  have HE := Lib.hid hE
  have V1 := Lib.hid ((okC_iff zs p inc).2 g)
  have V2 := Lib.hid ((okC_iff ys q jnc).2 k)
  have ip := g.p2; have ii0 := g.i0; have ii1 := g.i1
  have iq := k.p2; have ij0 := k.i0; have ij1 := k.i1
  obtain ⟨b1, hb1⟩ : ∃ b, finB zs p inc = b := ⟨_, rfl⟩
  obtain ⟨b2, hb2⟩ : ∃ b, finB ys q jnc = b := ⟨_, rfl⟩
  have hF1 : b1 = true ↔ ¬ InfC zs := by rw [← hb1]; exact finB_of g
  have hF2 : b2 = true ↔ ¬ InfC ys := by rw [← hb2]; exact finB_of k
  have HB12 := Lib.hid (And.intro hb1 hb2)
  have hcb : (b1 = true ∧ b2 = true ∧ c = G) ∨ (¬ (b1 = true ∧ b2 = true) ∧ c = 0) := by
    by_cases x1 : b1 = true
    · by_cases x2 : b2 = true
      · exact .inl ⟨x1, x2, hcf (hF1.1 x1) (hF2.1 x2)⟩
      · exact .inr ⟨fun hh => x2 hh.2, hci (.inr (Classical.byContradiction fun hn => x2 (hF2.2 hn)))⟩
    · exact .inr ⟨fun hh => x1 hh.1, hci (.inl (Classical.byContradiction fun hn => x1 (hF1.2 hn)))⟩
  have HCB := Lib.hid hcb
  have HFF := Lib.hid (And.intro (show IffB b1 (¬ InfC zs) from hF1) (show IffB b2 (¬ InfC ys) from hF2))
  clear h h2 hB hm hL hG hc hLL hPer hcf hci hM g k hE hb1 hb2 hF1 hF2 hcb
  go_enter Try.func84, Try.ntmps84
  go_wp2_with fail
  generalize (w.alloc (.cells #[.slice a n cap, .int .i64 p, .int .i64 inc] 26)).alloc (.cells #[.slice a2 n2 cap2, .int .i64 q, .int .i64 jnc] 26) = w0 at HBl T0 ⊢
  refine (rvalid_any a n cap zs p inc ⟨by omega, by omega⟩ ⟨by omega, by omega⟩ true V1.out _ T0.out.rx).mono ?_
  rintro e w1 ⟨rfl, hb⟩
  have T1 := Lib.hid (T0.out.under hb)
  have HB1 := Lib.hid (HBl.out.trans (hb.mono HBl.out.size))
  clear hb T0 HBl
  obtain ⟨d0, d1, d2, g0, g1, g2⟩ := T1.out.by'
  go_wp2_with fail
  clear d0 d1 d2 g0 g1 g2
  refine (rvalid_any a2 n2 cap2 ys q jnc ⟨by omega, by omega⟩ ⟨by omega, by omega⟩ true V2.out _ T1.out.ry).mono ?_
  rintro e w2 ⟨rfl, hb⟩
  have T2 := Lib.hid (T1.out.under hb)
  have HB2 := Lib.hid (HB1.out.trans (hb.mono HB1.out.size))
  clear hb T1 HB1
  obtain ⟨c0, c1, c2, f0, f1, f2⟩ := T2.out.bx
  obtain ⟨d0, d1, d2, g0, g1, g2⟩ := T2.out.by'
  go_wp2_with fail
  clear c0 c1 c2 f0 f1 f2 d0 d1 d2 g0 g1 g2
  refine (window_any a n cap zs p inc HG.out a2 n2 cap2 ys q jnc HK.out m L G HW.out.1 HW.out.2.1 HW.out.2.2 _ T2.out.rx T2.out.ry).mono ?_
  rintro e w4 ⟨rfl, hb⟩
  have T4 := Lib.hid (T2.out.under hb)
  have HB4 := Lib.hid (HB2.out.trans (hb.mono HB2.out.size))
  clear hb T2 HB2
  go_wp2_with fail
  go_loopw [10] (fun s10 wx => ∃ j : Nat, s10 = .int .i64 j ∧ j ≤ M ∧ Hid (∀ u, u < j → dC zs p inc ys q jnc u ≤ 0) ∧ Hid (Below w4.heap.size w4 wx)) (fun s10 _ => M - (intOf s10).toNat)
  case atStart => exact ⟨0, by go_num, by omega, fun u hu => absurd hu (Nat.not_lt_zero _), Below.refl _ _⟩
  case round =>
    obtain ⟨j, rfl, hj, HU, HX⟩ := hrel
    obtain ⟨w5, rfl⟩ : ∃ u : World, u = wr := ⟨_, rfl⟩
    have T5 := Lib.hid (T4.out.under HX.out)
    obtain ⟨c0, c1, c2, f0, f1, f2⟩ := T5.out.bx
    obtain ⟨d0, d1, d2, g0, g1, g2⟩ := T5.out.by'
    by_cases hlt : j < M
    · have hlt' : (j : Int) < (M : Int) := by omega
      obtain ⟨v, hv⟩ : ∃ v, abV (atC zs p inc j) (atC ys q jnc j) = v := ⟨_, rfl⟩
      have hsg := ab_sign HG.out HK.out (t := j) (by omega)
      rw [hv] at hsg
      have HV := Lib.hid hv
      have HS := Lib.hid hsg
      clear hv hsg
      go_wp2_with fail
      clear c0 c1 c2 f0 f1 f2 d0 d1 d2 g0 g1 g2
      refine (above_at a n cap zs p inc HG.out a2 n2 cap2 ys q jnc HK.out j j rfl (by omega) v HV.out _ T5.out.rx T5.out.ry).mono ?_
      rintro e w6 ⟨rfl, hb⟩
      have HX2 := Lib.hid (HX.out.trans (hb.mono HX.out.size))
      clear hb
      by_cases hpos : 0 < v
      · go_wp2_with fail
        obtain ⟨rfl, rfl⟩ := HE.out.unique (.inl ⟨rfl, j, rfl, HS.out.1 hpos, HU.out⟩)
        exact bodyPost_ret (v := .tuple #[.int .i64 j, .bool true, .int .i64 0]) (by simp [results, Try.results84, go_sem]) rfl ⟨rfl, HB4.out.trans (HX2.out.mono HB4.out.size)⟩
      · have hpos' : v ≤ 0 := by omega
        go_wp2_with fail
        exact ⟨⟨j + 1, by go_num, by omega, fun u hu => by
          by_cases he : u = j
          · subst he; have := HS.out; omega
          · exact HU.out u (by omega), HX2⟩, by simp [intOf]; omega⟩
    · have hjM : j = M := by omega
      have hlt' : ¬ (j : Int) < (M : Int) := by omega
      have hall : ∀ u, u < m + L → dC zs p inc ys q jnc u ≤ 0 := fun u hu => HU.out u (by have := HMM.out; omega)
      have HA := Lib.hid hall
      clear hall
      go_wp2_with fail
      clear c0 c1 c2 f0 f1 f2 d0 d1 d2 g0 g1 g2
      refine (rfinite_any a n cap zs p inc ⟨by omega, by omega⟩ ⟨by omega, by omega⟩ b1 HB12.out.1 _ T5.out.rx).mono ?_
      rintro e w6 ⟨rfl, hb⟩
      have T6 := Lib.hid (T5.out.under hb)
      have HX6 := Lib.hid (HX.out.trans (hb.mono HX.out.size))
      clear hb T5 HX
      cases b1 with
      | false =>
        have hc0 : c ≤ 0 := by rcases HCB.out with hh | hh <;> simp at hh <;> omega
        have HC0 := Lib.hid hc0
        clear hc0
        go_wp2_with fail
        obtain ⟨rfl, rfl⟩ := HE.out.unique (exc_none HP.out hL1 HC0.out HA.out)
        exact bodyPost_ret (v := .tuple #[.int .i64 0, .bool false, .int .i64 0]) (by simp [results, Try.results84, go_sem]) rfl ⟨rfl, HB4.out.trans (HX6.out.mono HB4.out.size)⟩
      | true =>
        obtain ⟨d0, d1, d2, g0, g1, g2⟩ := T6.out.by'
        go_wp2_with fail
        clear d0 d1 d2 g0 g1 g2
        refine (rfinite_any a2 n2 cap2 ys q jnc ⟨by omega, by omega⟩ ⟨by omega, by omega⟩ b2 HB12.out.2 _ T6.out.ry).mono ?_
        rintro e w7 ⟨rfl, hb⟩
        have T7 := Lib.hid (T6.out.under hb)
        have HX7 := Lib.hid (HX6.out.trans (hb.mono HX6.out.size))
        clear hb T6 HX6
        cases b2 with
        | false =>
          have hc0 : c ≤ 0 := by rcases HCB.out with hh | hh <;> simp at hh <;> omega
          have HC0 := Lib.hid hc0
          clear hc0
          go_wp2_with fail
          obtain ⟨rfl, rfl⟩ := HE.out.unique (exc_none HP.out hL1 HC0.out HA.out)
          exact bodyPost_ret (v := .tuple #[.int .i64 0, .bool false, .int .i64 0]) (by simp [results, Try.results84, go_sem]) rfl ⟨rfl, HB4.out.trans (HX7.out.mono HB4.out.size)⟩
        | true =>
          have hcG : c = G := by rcases HCB.out with hh | hh <;> simp at hh <;> omega
          subst hcG
          by_cases hc0 : c ≤ 0
          · go_wp2_with fail
            obtain ⟨rfl, rfl⟩ := HE.out.unique (exc_none HP.out hL1 hc0 HA.out)
            exact bodyPost_ret (v := .tuple #[.int .i64 0, .bool false, .int .i64 0]) (by simp [results, Try.results84, go_sem]) rfl ⟨rfl, HB4.out.trans (HX7.out.mono HB4.out.size)⟩
          · have hc1 : 0 < c := by omega
            have HFI := Lib.hid (And.intro HFF.out.1.get HFF.out.2.get)
            go_wp2_with fail
            go_loopw [11, 12] (fun s11 s12 wx => ∃ (r j : Nat) (x : Int), s12 = .int .i64 j ∧ j = m + r ∧ s11 = .int .i64 x ∧ r ≤ L ∧ Hid (MinJ (dC zs p inc ys q jnc) m L c r x) ∧ (-1 ≤ x ∧ x ≤ 9223372036854775807) ∧ Hid (Below w7.heap.size w7 wx)) (fun _ s12 _ => M - (intOf s12).toNat)
            case atStart => exact ⟨0, m, -1, rfl, rfl, rfl, by omega, .inl ⟨rfl, rfl⟩, ⟨by omega, by omega⟩, Below.refl _ _⟩
            case round =>
              obtain ⟨r, j, x, rfl, hjr, rfl, hr, HMJ, ⟨hx0, hx1⟩, HY⟩ := hrel
              obtain ⟨w8, rfl⟩ : ∃ u : World, u = wr := ⟨_, rfl⟩
              have T8 := Lib.hid (T7.out.under HY.out)
              obtain ⟨c0, c1, c2, f0, f1, f2⟩ := T8.out.bx
              obtain ⟨d0, d1, d2, g0, g1, g2⟩ := T8.out.by'
              by_cases hlt2 : r < L
              · have hlt3 : (j : Int) < (M : Int) := by have := HMM.out; omega
                obtain ⟨v, hv⟩ : ∃ v, abV (atC zs p inc j) (atC ys q jnc j) = v := ⟨_, rfl⟩
                have hdv : dC zs p inc ys q jnc (m + r) = v := by rw [← hjr, ← hv, ab_exact HG.out HK.out HFI.out.1 HFI.out.2 (by have := HMM.out; omega)]
                have hv0 : v ≤ 0 := by have := HA.out (m + r) (by omega); omega
                have hvb2 : -(1073741824 * 20000) ≤ v := by
                  rw [← hdv, dC_fin HFI.out.1 HFI.out.2]
                  have h6 := (HK.out.bd HFI.out.2 (m + r)).2
                  have h7 := HG.out.nonneg (m + r)
                  omega
                have HV := Lib.hid hv
                obtain ⟨d, hd⟩ : ∃ d, -v / c = d := ⟨_, rfl⟩
                have hd0' : 0 ≤ d := by rw [← hd]; exact Int.ediv_nonneg (by omega) (by omega)
                have hd1' : d ≤ -v := by rw [← hd]; exact Int.ediv_le_self _ (by omega)
                have q1 : IntKind.i64.wrap (-v) = -v := IntWalk.i64_in _ ⟨by omega, by omega⟩
                have q2 : (-v).tdiv c = d := by rw [Int.tdiv_eq_ediv_of_nonneg (by omega)]; exact hd
                obtain ⟨P, hP⟩ : ∃ P, (d + 1) * (L : Int) = P := ⟨_, rfl⟩
                have hPb : 0 ≤ P ∧ P ≤ (1073741824 * 20000 + 1) * 14400 := by
                  rw [← hP]; exact ⟨Int.mul_nonneg (by omega) (by omega), Int.mul_le_mul (by omega) (by omega) (by omega) (by omega)⟩
                obtain ⟨hPb0, hPb1⟩ := hPb
                have q6 : IntKind.i64.wrap ((d + 1) * (L : Int)) = P := by rw [hP]; exact IntWalk.i64_in _ ⟨by omega, by omega⟩
                have hfar : farT (dC zs p inc ys q jnc) m L c r = (j : Int) + P := by unfold farT; rw [hdv, hd, hP, ← hjr]
                have HF := Lib.hid hfar
                have HJR := Lib.hid hjr
                have hjb : j ≤ 20000 := by have := HMM.out; omega
                have q5 : ¬ c = 0 := by omega
                clear hv hdv hP hfar hjr
                go_wp2_with fail
                clear c0 c1 c2 f0 f1 f2 d0 d1 d2 g0 g1 g2
                refine (above_at a n cap zs p inc HG.out a2 n2 cap2 ys q jnc HK.out j j rfl (by omega) v HV.out _ T8.out.rx T8.out.ry).mono ?_
                rintro e w9 ⟨rfl, hb⟩
                have HY2 := Lib.hid (HY.out.trans (hb.mono HY.out.size))
                clear hb
                by_cases hx : x < 0
                · go_wp2_with fail
                  exact ⟨⟨r + 1, j + 1, (j : Int) + P, by go_num, by have := HJR.out; omega, rfl, by omega, HMJ.out.first HF.out hx, ⟨by omega, by omega⟩, HY2⟩, by simp [intOf]; omega⟩
                · by_cases hxx : (j : Int) + P < x
                  · go_wp2_with fail
                    exact ⟨⟨r + 1, j + 1, (j : Int) + P, by go_num, by have := HJR.out; omega, rfl, by omega, HMJ.out.step HF.out (by omega) (by omega), ⟨by omega, by omega⟩, HY2⟩, by simp [intOf]; omega⟩
                  · go_wp2_with fail
                    exact ⟨⟨r + 1, j + 1, x, by go_num, by have := HJR.out; omega, rfl, by omega, HMJ.out.step HF.out (by omega) (by omega), ⟨by omega, by omega⟩, HY2⟩, by simp [intOf]; omega⟩
              · obtain rfl : r = L := by omega
                have hlt4 : ¬ (j : Int) < (M : Int) := by have := HMM.out; omega
                obtain ⟨e1, e2⟩ := HMJ.out.last hL1
                go_wp2_with fail
                obtain ⟨rfl, rfl⟩ := HE.out.unique (exc_far HP.out hL1 hc1 HA.out x e1 e2)
                exact bodyPost_ret (v := .tuple #[.int .i64 t, .bool true, .int .i64 0]) (by simp [results, Try.results84, go_sem]) rfl ⟨rfl, HB4.out.trans ((HX7.out.trans (HY.out.mono HX7.out.size)).mono HB4.out.size)⟩
end
end Go.Proofs.Ytknimlpdpgpliaa

namespace Go.Proofs.Ytknimlpdpgpliaa
open Go.RowKit
set_option linter.unusedSimpArgs false

section
variable (a : Option Addr) (n cap : Nat) (zs : List Int) (p : Nat) (inc : Int) (g : Good zs p inc) (a2 : Option Addr) (n2 cap2 : Nat) (ys : List Int) (q : Nat) (jnc : Int) (k : Good ys q jnc) (t : Int) (ok : Bool)
    (w : World) (h : RowZ w a n cap zs) (h2 : RowZ w a2 n2 cap2 ys)
include g k h h2

set_option maxHeartbeats 1600000 in
theorem ratMost_ok (hE : ExcP (dC zs p inc ys q jnc) t ok) : Calls Try.prog 29 #[curV a n cap p inc, curV a2 n2 cap2 q jnc] w (Says (.bool (!ok)) w) := by
  have hB := two_boxes w (.cells #[.slice a n cap, .int .i64 p, .int .i64 inc] 26) (.cells #[.slice a2 n2 cap2, .int .i64 q, .int .i64 jnc] 26)
  have HBl := Lib.hid hB
  have T0 := Lib.hid (show Two ((w.alloc (.cells #[.slice a n cap, .int .i64 p, .int .i64 inc] 26)).alloc (.cells #[.slice a2 n2 cap2, .int .i64 q, .int .i64 jnc] 26)) w.heap.size a n cap p inc zs (w.heap.size + 1) a2 n2 cap2 q jnc ys from
    ⟨(Cur3.new w (.slice a n cap) (.int .i64 p) (.int .i64 inc) 26).alloc _, h.under hB, Cur3.new2 w _ _ _ _ _, h2.under hB⟩)
  have HG := Lib.hid g
  have HK := Lib.hid k
  have HE := Lib.hid hE
  clear h h2 hB hE g k
  go_enter Try.func29, Try.ntmps29
  go_wp2_with fail
  refine (rexceeds_ok a n cap zs p inc HG.out a2 n2 cap2 ys q jnc HK.out t ok _ T0.out.rx T0.out.ry HE.out).mono ?_
  rintro e w1 ⟨rfl, hb⟩
  have HB1 := Lib.hid (HBl.out.trans (hb.mono HBl.out.size))
  clear hb
  cases ok with
  | true =>
    go_wp2_with fail
    go_ret
    exact ⟨rfl, HB1.out⟩
  | false =>
    go_wp2_with fail
    go_ret
    exact ⟨rfl, HB1.out⟩

end
end Go.Proofs.Ytknimlpdpgpliaa
