/- Contracts of package order's small functions: value, leastMultiple, at, and the two closures. By the verifier's side. -/
import Derived.Test.YtolgklpdmlohlaaOrdM
import Derived.Test.YtolgklpdmlohlaaRefV
import Derived.Test.YtolgklpdmlohlaaCurT
import Derived.Deep.RegionHeld3
namespace Go.Proofs.Ytolgklpdmlohlaa
open Go.RowKit
set_option linter.unusedSimpArgs false

set_option maxHeartbeats 1600000 in
theorem oval_at (a : Option Addr) (n cap : Nat) (zs : List Int) (p : Nat) (inc : Int) (good : Good zs p inc) (ti : Int) (t : Nat) (hti : ti = t) (ht : t ≤ 1048576) (v : Int) (hv : atC zs p inc t = v) (w : World) (h : RowZ w a n cap zs) :
    Calls Try.prog 78 #[curV a n cap p inc, .int .i64 ti] w (Says (.int .i64 v) w) := by
  subst hti
  have hB := box_below w (.cells #[.slice a n cap, .int .i64 p, .int .i64 inc] 24)
  have HBl := Lib.hid hB
  have hrow := h.under hB
  have HV := Lib.hid hv
  have hlen := h.len
  have hfew := good.few
  have hp1 := good.p1
  have hp2 := good.p2
  have hp3 := good.p3
  have hi0 := good.i0
  have hi1 := good.i1
  have hn : n ≤ 400 := by omega
  have hn1 : 1 ≤ n := by omega
  have hpn : p ≤ n := by omega
  clear hv h hB
  by_cases hlt : t < n
  · obtain ⟨x, rfl, hc⟩ := hrow.cell t hlt
    have e : zs.getD t 0 = v := by rw [← HV.out, atC_lt (by omega)]
    rw [e] at hc
    have r13 : (t : Int) < (n : Int) := by omega
    clear hrow good hlen e
    go_enter Try.func78, Try.ntmps78
    go_wp2_with fail
    go_ret
    exact ⟨rfl, HBl.out⟩
  · obtain ⟨i1', i2', i3'⟩ := idx_facts hp1 hpn (show n ≤ t by omega)
    obtain ⟨u, hu⟩ : ∃ u, t = n + u := ⟨t - n, by omega⟩
    obtain ⟨c, hc⟩ : ∃ c, u / p = c := ⟨_, rfl⟩
    have hcu : c ≤ u := by rw [← hc]; exact Nat.div_le_self _ _
    obtain ⟨M, hM⟩ : ∃ M, (c + 1) * p = M := ⟨_, rfl⟩
    rw [show t - n = u by omega, hc, hM] at i1' i2' i3'
    obtain ⟨i, hi⟩ : ∃ i, t - M = i := ⟨_, rfl⟩
    rw [hi] at i2' i3'
    obtain ⟨x, rfl, hcell⟩ := hrow.cell i i3'
    obtain ⟨z, hzz⟩ : ∃ z, zs.getD i 0 = z := ⟨_, rfl⟩
    rw [hzz] at hcell
    obtain ⟨G, hG⟩ : ∃ G, ((c : Int) + 1) * inc = G := ⟨_, rfl⟩
    have hG0 : 0 ≤ G ∧ G ≤ 1048577 * 1073741824 := by
      rw [← hG]
      have h1 : ((c : Int) + 1) * inc ≤ 1048577 * 1073741824 := Int.mul_le_mul (by omega) hi1 hi0 (by omega)
      exact ⟨Int.mul_nonneg (by omega) hi0, h1⟩
    have hzb : 0 ≤ z ∧ z ≤ 4611686018427387904 := by
      rw [← hzz]
      rcases good.val i (by omega) with h | h
      · omega
      · rw [h]; unfold infV; omega
    have e2 : z + G = v := by
      by_cases hz : zs.getD (zs.length - 1) 0 = infV
      · obtain ⟨hp, hz0⟩ := good.tailI hz
        have e : v = 4611686018427387904 := by rw [← HV.out, atC_inf hz (by omega) (by omega)]
        have ez : z = 4611686018427387904 := by rw [← hzz, show i = zs.length - 1 by omega]; exact hz
        rw [e, ez, ← hG, hz0]; simp
      · have e : zs.getD (t - ((t - n) / p + 1) * p) 0 + (((t - n) / p + 1 : Nat) : Int) * inc = v := by rw [← HV.out, atC_ge hz (by omega), hlen]
        rw [show t - n = u by omega, hc, hM, hi, hzz] at e
        rw [← e, ← hG]; rfl
    have r1 : (t : Int) - (n : Int) = (u : Int) := by omega
    have r2 : (u : Int) / (p : Int) = (c : Int) := by rw [← hc, Int.natCast_ediv]
    have r3 : IntKind.i64.wrap (((c : Int) + 1) * (p : Int)) = (M : Int) := by
      rw [show ((c : Int) + 1) * (p : Int) = (M : Int) by rw [← hM]; simp]
      exact IntWalk.i64_in _ ⟨by omega, by omega⟩
    have r4 : (t : Int) - (M : Int) = (i : Int) := by omega
    have r5 : IntKind.i64.wrap (i : Int) = (i : Int) := IntWalk.i64_in _ ⟨by omega, by omega⟩
    have r6 : IntKind.i64.wrap (((c : Int) + 1) * inc) = G := by rw [hG]; exact IntWalk.i64_in _ ⟨by omega, by omega⟩
    have r7 : IntKind.i64.wrap (z + G) = v := by rw [e2]; exact IntWalk.i64_in _ ⟨by omega, by omega⟩
    have r8 : (0 : Int) ≤ (i : Int) := by omega
    have r9 : (i : Int) < (n : Int) := by omega
    have r10 : ((t : Int) < (n : Int)) = False := by simp; omega
    have r11 : ¬ (p : Int) = 0 := by omega
    have r12 : (1 : Int) ≤ (p : Int) := by omega
    clear hrow good hlen hc hM hi hzz hG hu hG0 hzb e2 i1' i2' hlt
    go_enter Try.func78, Try.ntmps78
    go_wp2_with fail
    go_quiet (fail)
    go_wp2_with fail
    go_ret
    exact ⟨rfl, HBl.out.drewN _⟩

set_option maxHeartbeats 800000 in
theorem olm_any (a b : Nat) (ha : 1 ≤ a) (ha2 : a ≤ 1000) (hb : 1 ≤ b) (hb2 : b ≤ 1000) (w : World) :
    Calls Try.prog 77 #[.int .i64 a, .int .i64 b] w (Drew (.int .i64 (a / Nat.gcd a b * b : Nat)) w) := by
  go_enter Try.func77, Try.ntmps77
  go_wp2
  go_loopw [5, 6] (fun va vb wr => ∃ x y : Nat, va = .int .i64 x ∧ vb = .int .i64 y ∧ x < 9223372036854775808 ∧ y < 9223372036854775808 ∧ Hid (Nat.gcd x y = Nat.gcd a b) ∧ ∃ m, wr = w.drewN m) (fun _ vb _ => (intOf vb).toNat)
  case atStart => exact ⟨a, b, rfl, rfl, by omega, by omega, rfl, 0, rfl⟩
  case round =>
    obtain ⟨x, y, rfl, rfl, hx, hy, hg, m, rfl⟩ := hrel
    by_cases h0 : y = 0
    · subst h0
      have hg' := hg.out
      rw [Nat.gcd_zero_right] at hg'
      have hg1 : 1 ≤ (x : Int) := by have := Nat.gcd_pos_of_pos_left b (show 0 < a by omega); omega
      obtain ⟨q, hq⟩ : ∃ q, a / x = q := ⟨_, rfl⟩
      have hqa : q ≤ a := by rw [← hq]; exact Nat.div_le_self _ _
      obtain ⟨M, hM⟩ : ∃ M, q * b = M := ⟨_, rfl⟩
      have hmb : M ≤ 1000 * 1000 := by rw [← hM]; exact Nat.mul_le_mul (by omega) hb2
      have h1 : (a : Int) / (x : Int) = (q : Int) := by rw [← hq]; simp
      have h3 : IntKind.i64.wrap ((q : Int) * (b : Int)) = (M : Int) := by rw [show (q : Int) * (b : Int) = (M : Int) by rw [← hM]; simp]; exact IntWalk.i64_in _ ⟨by omega, by omega⟩
      have h4 : (q : Int) * (b : Int) = (M : Int) := by rw [← hM]; simp
      have HG := Lib.hid (show a / Nat.gcd a b * b = M by rw [← hg', hq, hM])
      clear hg hg' hq hM
      go_wp2
      go_ret
      exact ⟨ret_int (by rw [HG.out]), m, rfl⟩
    · have hy0 : 0 < y := by omega
      have hlt := Nat.mod_lt x hy0
      go_wp2
      go_quiet (fail)
      go_wp2
      go_roundw
      case rel => exact ⟨y, x % y, rfl, by rw [Int.natCast_emod], hy, by omega, (gcd_step x y).trans hg.out, m + _, World.drewN_drewN _ _ _⟩
      case measure => simp [intOf]; omega
theorem olm_at (a b L : Nat) (hL : a / Nat.gcd a b * b = L) (ha : 1 ≤ a) (ha2 : a ≤ 1000) (hb : 1 ≤ b) (hb2 : b ≤ 1000) (w : World) :
    Calls Try.prog 77 #[.int .i64 a, .int .i64 b] w (Drew (.int .i64 L) w) := by subst hL; exact olm_any a b ha ha2 hb hb2 w

/-- Block b holds two curves and three numbers, and may be written. -/
structure Dif (w : World) (b : Nat) (x0 x1 x2 y0 y1 y2 z0 z1 z2 : Value) : Prop where
  lo : Cur3 w b x0 x1 x2
  c3 : w.cell? ⟨b, 3, none⟩ = some y0
  c4 : w.cell? ⟨b, 4, none⟩ = some y1
  c5 : w.cell? ⟨b, 5, none⟩ = some y2
  c6 : w.cell? ⟨b, 6, none⟩ = some z0
  c7 : w.cell? ⟨b, 7, none⟩ = some z1
  c8 : w.cell? ⟨b, 8, none⟩ = some z2
  f3 : w.frozen? ⟨b, 3, none⟩ = false
  f4 : w.frozen? ⟨b, 4, none⟩ = false
  f5 : w.frozen? ⟨b, 5, none⟩ = false
  f6 : w.frozen? ⟨b, 6, none⟩ = false
  f7 : w.frozen? ⟨b, 7, none⟩ = false
  f8 : w.frozen? ⟨b, 8, none⟩ = false
section
variable {w w' : World} {b : Nat} {x0 x1 x2 y0 y1 y2 z0 z1 z2 : Value}
theorem Dif.lt (h : Dif w b x0 x1 x2 y0 y1 y2 z0 z1 z2) : b < w.heap.size := h.lo.lt
theorem Dif.below (h : Dif w b x0 x1 x2 y0 y1 y2 z0 z1 z2) (hb : Below w.heap.size w w') : Dif w' b x0 x1 x2 y0 y1 y2 z0 z1 z2 :=
  ⟨h.lo.below hb, (hb.cell (p := ⟨b, 3, none⟩) h.lt).trans h.c3, (hb.cell (p := ⟨b, 4, none⟩) h.lt).trans h.c4, (hb.cell (p := ⟨b, 5, none⟩) h.lt).trans h.c5,
    (hb.cell (p := ⟨b, 6, none⟩) h.lt).trans h.c6, (hb.cell (p := ⟨b, 7, none⟩) h.lt).trans h.c7, (hb.cell (p := ⟨b, 8, none⟩) h.lt).trans h.c8,
    (hb.frozen (p := ⟨b, 3, none⟩) h.lt).trans h.f3, (hb.frozen (p := ⟨b, 4, none⟩) h.lt).trans h.f4, (hb.frozen (p := ⟨b, 5, none⟩) h.lt).trans h.f5,
    (hb.frozen (p := ⟨b, 6, none⟩) h.lt).trans h.f6, (hb.frozen (p := ⟨b, 7, none⟩) h.lt).trans h.f7, (hb.frozen (p := ⟨b, 8, none⟩) h.lt).trans h.f8⟩
theorem Dif.alloc (h : Dif w b x0 x1 x2 y0 y1 y2 z0 z1 z2) (o : Obj) : Dif (w.alloc o) b x0 x1 x2 y0 y1 y2 z0 z1 z2 := h.below ((Below.refl _ _).alloc (Nat.le_refl _) o)
theorem Dif.drewN (h : Dif w b x0 x1 x2 y0 y1 y2 z0 z1 z2) (n : Nat) : Dif (w.drewN n) b x0 x1 x2 y0 y1 y2 z0 z1 z2 := h.below ((Below.refl _ _).drewN n)
theorem Dif.dr (h : Dif w b x0 x1 x2 y0 y1 y2 z0 z1 z2) (hd : ∃ m, w' = w.drewN m) : Dif w' b x0 x1 x2 y0 y1 y2 z0 z1 z2 := by obtain ⟨m, rfl⟩ := hd; exact h.drewN m
theorem Dif.other (h : Dif w b x0 x1 x2 y0 y1 y2 z0 z1 z2) {q : Nat} (hq : ¬ b = q) (i : Nat) (v : Value) : Dif (w.setCell ⟨q, i, none⟩ v) b x0 x1 x2 y0 y1 y2 z0 z1 z2 := by
  have hb : (w.setCell ⟨q, i, none⟩ v).heap[b]? = w.heap[b]? := Below.heap_setCell _ _ _ _ hq
  exact ⟨h.lo.other hq i v, (World.cell?_of_block (w := w) (a := ⟨b, 3, none⟩) hb).trans h.c3, (World.cell?_of_block (w := w) (a := ⟨b, 4, none⟩) hb).trans h.c4, (World.cell?_of_block (w := w) (a := ⟨b, 5, none⟩) hb).trans h.c5,
    (World.cell?_of_block (w := w) (a := ⟨b, 6, none⟩) hb).trans h.c6, (World.cell?_of_block (w := w) (a := ⟨b, 7, none⟩) hb).trans h.c7, (World.cell?_of_block (w := w) (a := ⟨b, 8, none⟩) hb).trans h.c8,
    (World.frozen?_of_block (w := w) (a := ⟨b, 3, none⟩) hb).trans h.f3, (World.frozen?_of_block (w := w) (a := ⟨b, 4, none⟩) hb).trans h.f4, (World.frozen?_of_block (w := w) (a := ⟨b, 5, none⟩) hb).trans h.f5,
    (World.frozen?_of_block (w := w) (a := ⟨b, 6, none⟩) hb).trans h.f6, (World.frozen?_of_block (w := w) (a := ⟨b, 7, none⟩) hb).trans h.f7, (World.frozen?_of_block (w := w) (a := ⟨b, 8, none⟩) hb).trans h.f8⟩
theorem Dif.set6 (h : Dif w b x0 x1 x2 y0 y1 y2 z0 z1 z2) (v : Value) : Dif (w.setCell ⟨b, 6, none⟩ v) b x0 x1 x2 y0 y1 y2 v z1 z2 := by
  obtain ⟨⟨c0, c1, c2, f0, f1, f2⟩, c3, c4, c5, c6, c7, c8, f3, f4, f5, f6, f7, f8⟩ := h
  exact ⟨⟨by go_simp, by go_simp, by go_simp, by go_simp, by go_simp, by go_simp⟩, by go_simp, by go_simp, by go_simp, by go_simp, by go_simp, by go_simp, by go_simp, by go_simp, by go_simp, by go_simp, by go_simp, by go_simp⟩
theorem Dif.set7 (h : Dif w b x0 x1 x2 y0 y1 y2 z0 z1 z2) (v : Value) : Dif (w.setCell ⟨b, 7, none⟩ v) b x0 x1 x2 y0 y1 y2 z0 v z2 := by
  obtain ⟨⟨c0, c1, c2, f0, f1, f2⟩, c3, c4, c5, c6, c7, c8, f3, f4, f5, f6, f7, f8⟩ := h
  exact ⟨⟨by go_simp, by go_simp, by go_simp, by go_simp, by go_simp, by go_simp⟩, by go_simp, by go_simp, by go_simp, by go_simp, by go_simp, by go_simp, by go_simp, by go_simp, by go_simp, by go_simp, by go_simp, by go_simp⟩
theorem Dif.set8 (h : Dif w b x0 x1 x2 y0 y1 y2 z0 z1 z2) (v : Value) : Dif (w.setCell ⟨b, 8, none⟩ v) b x0 x1 x2 y0 y1 y2 z0 z1 v := by
  obtain ⟨⟨c0, c1, c2, f0, f1, f2⟩, c3, c4, c5, c6, c7, c8, f3, f4, f5, f6, f7, f8⟩ := h
  exact ⟨⟨by go_simp, by go_simp, by go_simp, by go_simp, by go_simp, by go_simp⟩, by go_simp, by go_simp, by go_simp, by go_simp, by go_simp, by go_simp, by go_simp, by go_simp, by go_simp, by go_simp, by go_simp, by go_simp⟩
theorem dif_new (w : World) (x0 x1 x2 y0 y1 y2 z0 z1 z2 : Value) (t : TypeId) : Dif (w.alloc (.cells #[x0, x1, x2, y0, y1, y2, z0, z1, z2] t)) w.heap.size x0 x1 x2 y0 y1 y2 z0 z1 z2 :=
  ⟨⟨by go_simp, by go_simp, by go_simp, by go_simp, by go_simp, by go_simp⟩, by go_simp, by go_simp, by go_simp, by go_simp, by go_simp, by go_simp, by go_simp, by go_simp, by go_simp, by go_simp, by go_simp, by go_simp⟩
end

/-- What a drawn region keeps of such a block. -/
abbrev DifS (W : World) (b : Nat) (x0 x1 x2 y0 y1 y2 z0 z1 z2 : Value) (u : World) : Prop :=
  u.cell? ⟨b, 0, none⟩ = some x0 ∧ u.cell? ⟨b, 1, none⟩ = some x1 ∧ u.cell? ⟨b, 2, none⟩ = some x2 ∧ u.cell? ⟨b, 3, none⟩ = some y0 ∧ u.cell? ⟨b, 4, none⟩ = some y1 ∧ u.cell? ⟨b, 5, none⟩ = some y2 ∧
  u.cell? ⟨b, 6, none⟩ = some z0 ∧ u.cell? ⟨b, 7, none⟩ = some z1 ∧ u.cell? ⟨b, 8, none⟩ = some z2 ∧ Hid (Below W.heap.size W u ∧ Dif u b x0 x1 x2 y0 y1 y2 z0 z1 z2)
section
variable {W u v : World} {b : Nat} {x0 x1 x2 y0 y1 y2 z0 z1 z2 : Value}
theorem difs_s (h : Dif u b x0 x1 x2 y0 y1 y2 z0 z1 z2) (hb : Below W.heap.size W u) : DifS W b x0 x1 x2 y0 y1 y2 z0 z1 z2 u := ⟨h.lo.c0, h.lo.c1, h.lo.c2, h.c3, h.c4, h.c5, h.c6, h.c7, h.c8, hb, h⟩
theorem difs_below (h : DifS W b x0 x1 x2 y0 y1 y2 z0 z1 z2 u) : Below W.heap.size W u := h.2.2.2.2.2.2.2.2.2.out.1
theorem difs_dif (h : DifS W b x0 x1 x2 y0 y1 y2 z0 z1 z2 u) : Dif u b x0 x1 x2 y0 y1 y2 z0 z1 z2 := h.2.2.2.2.2.2.2.2.2.out.2
theorem difs_drew (h : Dif W b x0 x1 x2 y0 y1 y2 z0 z1 z2) : DifS W b x0 x1 x2 y0 y1 y2 z0 z1 z2 W.drew := difs_s (h.below (Below.refl _ _).drew) (Below.refl _ _).drew
theorem difs_call (h : DifS W b x0 x1 x2 y0 y1 y2 z0 z1 z2 u) (hb : Below u.heap.size u v) : DifS W b x0 x1 x2 y0 y1 y2 z0 z1 z2 v :=
  difs_s ((difs_dif h).below hb) ((difs_below h).trans (hb.mono (difs_below h).size))
end

/-- The difference of two curves, as it is handed on. -/
abbrev difV (a : Option Addr) (n cap : Nat) (p inc : Int) (a2 : Option Addr) (n2 cap2 : Nat) (q jnc : Int) (S L c : Int) : Value :=
  .agg #[.slice a n cap, .int .i64 p, .int .i64 inc, .slice a2 n2 cap2, .int .i64 q, .int .i64 jnc, .int .i64 S, .int .i64 L, .int .i64 c]

set_option maxHeartbeats 1600000 in
theorem dat_at (a : Option Addr) (n cap : Nat) (zs : List Int) (p : Nat) (inc : Int) (g : Good zs p inc) (a2 : Option Addr) (n2 cap2 : Nat) (ys : List Int) (q : Nat) (jnc : Int) (k : Good ys q jnc) (S L c : Int)
    (ti : Int) (t : Nat) (hti : ti = t) (ht : t ≤ 1048576) (v : Int) (hv : atC zs p inc t - atC ys q jnc t = v) (w : World) (h : RowZ w a n cap zs) (h2 : RowZ w a2 n2 cap2 ys) :
    Calls Try.prog 61 #[difV a n cap p inc a2 n2 cap2 q jnc S L c, .int .i64 ti] w (Says (.int .i64 v) w) := by
  subst hti
  have hB := box_below w (.cells #[.slice a n cap, .int .i64 p, .int .i64 inc, .slice a2 n2 cap2, .int .i64 q, .int .i64 jnc, .int .i64 S, .int .i64 L, .int .i64 c] 66)
  have HBl := Lib.hid hB
  have H := Lib.hid (h.under hB)
  have H2 := Lib.hid (h2.under hB)
  have KD := Lib.hid (dif_new w (.slice a n cap) (.int .i64 p) (.int .i64 inc) (.slice a2 n2 cap2) (.int .i64 q) (.int .i64 jnc) (.int .i64 S) (.int .i64 L) (.int .i64 c) 66)
  have hd := dif_bd g k ht
  obtain ⟨x, hx⟩ : ∃ x, atC zs p inc t = x := ⟨_, rfl⟩
  obtain ⟨y, hy⟩ : ∃ y, atC ys q jnc t = y := ⟨_, rfl⟩
  rw [hx, hy] at hd hv
  have hbx := at_bd g ht
  have hby := at_bd k ht
  rw [hx] at hbx
  rw [hy] at hby
  obtain ⟨hx0, hx1⟩ := hbx
  obtain ⟨hy0, hy1⟩ := hby
  have r1 : IntKind.i64.wrap (x - y) = v := by rw [hv]; rw [hv] at hd; exact IntWalk.i64_in _ ⟨by omega, by omega⟩
  have HG := Lib.hid g
  have HK := Lib.hid k
  have HX := Lib.hid hx
  have HY := Lib.hid hy
  have HV := Lib.hid hv
  clear h h2 hB g k hv hx hy hd
  go_enter Try.func61, Try.ntmps61
  go_wp2_with fail
  generalize w.alloc (.cells #[.slice a n cap, .int .i64 p, .int .i64 inc, .slice a2 n2 cap2, .int .i64 q, .int .i64 jnc, .int .i64 S, .int .i64 L, .int .i64 c] 66) = w0 at HBl H H2 KD ⊢
  go_region_held3 (fun u => DifS w0 w.heap.size (.slice a n cap) (.int .i64 p) (.int .i64 inc) (.slice a2 n2 cap2) (.int .i64 q) (.int .i64 jnc) (.int .i64 S) (.int .i64 L) (.int .i64 c) u)
    (first | with_reducible exact difs_drew KD.out | with_reducible exact difs_call (by assumption) hbx)
    (first
      | (go_at_call 78; ((with_reducible refine (oval_at a n cap zs p inc HG.out t t rfl ht x HX.out _ (H.out.under (difs_below (by assumption)))).mono ?_); rintro e w1 ⟨rfl, hbx⟩))
      | (go_at_call 78; ((with_reducible refine (oval_at a2 n2 cap2 ys q jnc HK.out t t rfl ht y HY.out _ (H2.out.under (difs_below (by assumption)))).mono ?_); rintro e w2 ⟨rfl, hbx⟩)))
  all_goals go_wp2_with fail
  all_goals go_ret
  all_goals exact ⟨rfl, HBl.out.trans ((difs_below (by assumption)).mono HBl.out.size)⟩
end Go.Proofs.Ytolgklpdmlohlaa
