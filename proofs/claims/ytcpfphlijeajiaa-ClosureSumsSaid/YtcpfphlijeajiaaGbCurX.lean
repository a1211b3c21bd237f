/- Contracts: the document's Gcd and Lcm; slices.Equal at numbers; curve.Same, curve.Equal. By the verifier's side. -/
import Derived.Test.YtcpfphlijeajiaaGbCurveGrowsW
import Derived.Deep.RegionHeld3
namespace Go.Proofs.Ytcpfphlijeajiaa
open Go.RowKit
set_option linter.unusedSimpArgs false

set_option maxHeartbeats 400000 in
theorem gcd_any (a b : Nat) (ha : a < 9223372036854775808) (hb : b < 9223372036854775808) (w : World) :
    Calls Try.prog 191 #[.int .i64 a, .int .i64 b] w (Drew (.int .i64 (Nat.gcd a b : Nat)) w) := by
  go_enter Try.func191, Try.ntmps191
  go_wp2
  go_loopw [0, 1] (fun va vb wr => ∃ x y : Nat, va = .int .i64 x ∧ vb = .int .i64 y ∧ x < 9223372036854775808 ∧ y < 9223372036854775808 ∧ Hid (Nat.gcd x y = Nat.gcd a b) ∧ ∃ m, wr = w.drewN m) (fun _ vb _ => (intOf vb).toNat)
  case atStart => exact ⟨a, b, rfl, rfl, ha, hb, rfl, 0, rfl⟩
  case round =>
    obtain ⟨x, y, rfl, rfl, hx, hy, hg, m, rfl⟩ := hrel
    by_cases h0 : y = 0
    · subst h0
      go_wp2
      go_ret
      exact ⟨ret_int (by have := hg.out; simp at this; omega), m, rfl⟩
    · have hy0 : 0 < y := by omega
      have hlt := Nat.mod_lt x hy0
      go_wp2
      go_quiet (fail)
      go_wp2
      go_roundw
      case rel => exact ⟨y, x % y, rfl, by rw [Int.natCast_emod], hy, by omega, (gcd_step x y).trans hg.out, m + _, World.drewN_drewN _ _ _⟩
      case measure => simp [intOf]; omega

set_option maxHeartbeats 400000 in

set_option maxHeartbeats 400000 in
theorem lcm_any (a b : Nat) (ha : 1 ≤ a) (ha2 : a ≤ 1000) (hb : 1 ≤ b) (hb2 : b ≤ 1000) (w : World) :
    Calls Try.prog 138 #[.int .i64 a, .int .i64 b] w (Drew (.int .i64 (a / Nat.gcd a b * b : Nat)) w) := by
  obtain ⟨g, hg⟩ : ∃ g, Nat.gcd a b = g := ⟨_, rfl⟩
  have hg1 : 1 ≤ (g : Int) := by have := Nat.gcd_pos_of_pos_left b (show 0 < a by omega); omega
  obtain ⟨q, hq⟩ : ∃ q, a / g = q := ⟨_, rfl⟩
  have hqa : q ≤ a := by rw [← hq]; exact Nat.div_le_self _ _
  obtain ⟨m, hm⟩ : ∃ m, q * b = m := ⟨_, rfl⟩
  have hmb : m ≤ 1000 * 1000 := by rw [← hm]; exact Nat.mul_le_mul (by omega) hb2
  have h1 : (a : Int) / (g : Int) = (q : Int) := by rw [← hq]; simp
  have h2 : IntKind.i64.wrap ((a : Int) / (g : Int)) = (q : Int) := by rw [h1]; exact IntWalk.i64_in _ ⟨by omega, by omega⟩
  have h3 : IntKind.i64.wrap ((q : Int) * (b : Int)) = (m : Int) := by rw [show (q : Int) * (b : Int) = (m : Int) by rw [← hm]; simp]; exact IntWalk.i64_in _ ⟨by omega, by omega⟩
  have HG := Lib.hid (And.intro hg (And.intro hq hm))
  rw [hg, hq, hm]
  clear hg hq hm
  go_enter Try.func138, Try.ntmps138
  go_wp2_with fail
  refine (gcd_any a b (by omega) (by omega) _).mono ?_
  rintro e w1 ⟨rfl, k, rfl⟩
  rw [HG.out.1]
  go_wp2_with fail
  go_ret
  exact ⟨rfl, k, rfl⟩

theorem lcm_at (a b L : Nat) (hL : a / Nat.gcd a b * b = L) (ha : 1 ≤ a) (ha2 : a ≤ 1000) (hb : 1 ≤ b) (hb2 : b ≤ 1000) (w : World) :
    Calls Try.prog 138 #[.int .i64 a, .int .i64 b] w (Drew (.int .i64 L) w) := by subst hL; exact lcm_any a b ha ha2 hb hb2 w

set_option maxHeartbeats 1600000 in
theorem sequal_any (a : Option Addr) (n cap : Nat) (zs : List Int) (a2 : Option Addr) (n2 cap2 : Nat) (ys : List Int) (b : Bool) (hb : decide (zs = ys) = b) (w : World) (h : RowZ w a n cap zs) (h2 : RowZ w a2 n2 cap2 ys) :
    Calls Try.prog 142 #[.slice a n cap, .slice a2 n2 cap2] w (Drew (.bool b) w) := by
  have H := Lib.hid h
  have H2 := Lib.hid h2
  have HB := Lib.hid hb
  have hn := h.sm
  have hn2 := h2.sm
  have hl := h.len
  have hl2 := h2.len
  subst hl hl2
  clear h h2 hb
  by_cases e1 : zs.length = ys.length
  · have t1 : ((zs.length : Int) != (ys.length : Int)) = false := by simp [e1]
    have E1 := Lib.hid e1
    have hle : zs.length ≤ ys.length := by omega
    clear e1
    go_enter Try.func142, Try.ntmps142
    go_wp2_with fail
    go_loopw [13] (fun s13 wx => ∃ k : Nat, s13 = .int .i64 k ∧ k ≤ zs.length ∧ Hid (∀ i, i < k → zs.getD i 0 = ys.getD i 0) ∧ Hid (∃ m, wx = w.drewN m)) (fun s13 _ => zs.length - (intOf s13).toNat)
    case atStart => exact ⟨0, rfl, Nat.zero_le _, fun i hi => absurd hi (Nat.not_lt_zero _), 0, rfl⟩
    case round =>
      obtain ⟨k, rfl, hk, hall, hdr⟩ := hrel
      obtain ⟨w1, rfl⟩ : ∃ u : World, u = wr := ⟨_, rfl⟩
      by_cases hlt : k < zs.length
      · obtain ⟨x, rfl, hcx⟩ := (H.out.dr hdr.out).cell k hlt
        obtain ⟨y, rfl, hcy⟩ := (H2.out.dr hdr.out).cell k (by omega)
        obtain ⟨v1, hv1⟩ : ∃ v, zs.getD k 0 = v := ⟨_, rfl⟩
        obtain ⟨v2, hv2⟩ : ∃ v, ys.getD k 0 = v := ⟨_, rfl⟩
        rw [hv1] at hcx
        rw [hv2] at hcy
        have HV := Lib.hid (And.intro hv1 hv2)
        have hky : (k : Int) < (ys.length : Int) := by omega
        have hkz : (k : Int) < (zs.length : Int) := by omega
        have hk0 : (0 : Int) ≤ (k : Int) := by omega
        clear hv1 hv2
        by_cases hd : v1 = v2
        · have hd' : (v1 != v2) = false := by simpa using hd
          have HD := Lib.hid hd
          clear hd
          go_wp2_with fail
          go_quiet (fail)
          go_wp2_with fail
          go_roundw
          case rel =>
            refine ⟨k + 1, by go_num, by omega, fun i hi => ?_, hdr_add hdr.out nq⟩
            by_cases he : i = k
            · subst he; rw [HV.out.1, HV.out.2]; exact HD.out
            · exact hall.out i (by omega)
          case measure => simp [intOf]; omega
        · have hd' : (v1 != v2) = true := by simpa using hd
          have HD := Lib.hid hd
          clear hd
          go_wp2_with fail
          go_quiet (fail)
          go_wp2_with fail
          go_ret
          refine ⟨?_, hdr_add hdr.out nq⟩
          rw [← HB.out, decide_eq_false (show ¬ zs = ys from fun e => HD.out (by rw [← HV.out.1, ← HV.out.2, e]))]; rfl
      · obtain rfl : k = zs.length := by omega
        go_wp2_with fail
        go_ret
        refine ⟨?_, hdr.out⟩
        rw [← HB.out, decide_eq_true (list_ext_getD E1.out hall.out)]; rfl
  · have t1 : ((zs.length : Int) != (ys.length : Int)) = true := by simp; omega
    have e : b = false := by rw [← HB.out]; exact decide_eq_false (fun e => e1 (by rw [e]))
    subst e
    clear e1
    go_enter Try.func142, Try.ntmps142
    go_wp2_with fail
    go_ret
    exact ⟨rfl, 0, rfl⟩

set_option maxHeartbeats 1600000 in
theorem same_any (a : Option Addr) (n cap : Nat) (zs : List Int) (p inc : Int) (a2 : Option Addr) (n2 cap2 : Nat) (ys : List Int) (q jnc : Int) (b : Bool) (hb : sameB zs p inc ys q jnc = b) (w : World) (h : RowZ w a n cap zs) (h2 : RowZ w a2 n2 cap2 ys) :
    Calls Try.prog 79 #[curV a n cap p inc, curV a2 n2 cap2 q jnc] w (Says (.bool b) w) := by
  have hB : Below w.heap.size w ((w.alloc (.cells #[.slice a n cap, .int .i64 p, .int .i64 inc] 24)).alloc (.cells #[.slice a2 n2 cap2, .int .i64 q, .int .i64 jnc] 24)) :=
    ((Below.refl _ _).alloc (Nat.le_refl _) _).alloc (by simp) _
  have HBl := Lib.hid hB
  have H := Lib.hid (h.under hB)
  have H2 := Lib.hid (h2.under hB)
  have HB := Lib.hid hb
  have KF := Lib.hid ((Cur3.new w (.slice a n cap) (.int .i64 p) (.int .i64 inc) 24).alloc (.cells #[.slice a2 n2 cap2, .int .i64 q, .int .i64 jnc] 24))
  have KG := Lib.hid (Cur3.new2 w (.slice a2 n2 cap2) (.int .i64 q) (.int .i64 jnc) 24 (.cells #[.slice a n cap, .int .i64 p, .int .i64 inc] 24))
  clear h h2 hb hB
  by_cases e1 : zs = ys
  · have E1 := Lib.hid (decide_eq_true e1)
    have hs : b = (decide (p = q) && decide (inc = jnc)) := by rw [← HB.out]; unfold sameB; rw [decide_eq_true e1, Bool.true_and]
    have HS := Lib.hid hs
    clear e1 hs
    by_cases e2 : p = q
    · have t2 : (p == q) = true := by simp [e2]
      by_cases e3 : inc = jnc
      · have t3 : (inc == jnc) = true := by simp [e3]
        obtain rfl : b = true := by rw [HS.out, decide_eq_true e2, decide_eq_true e3]; rfl
        clear e2 e3
        go_enter Try.func79, Try.ntmps79
        go_wp2_with fail
        refine (sequal_any a n cap zs a2 n2 cap2 ys true E1.out _ H.out H2.out).mono ?_
        rintro e w1 ⟨rfl, hd⟩
        obtain ⟨c0, c1, c2, f0, f1, f2⟩ := KF.out.dr hd
        obtain ⟨d0, d1, d2, g0, g1, g2⟩ := KG.out.dr hd
        have HB1 := Lib.hid (below_dr HBl.out hd)
        clear hd
        go_wp2_with fail
        go_ret
        exact ⟨rfl, HB1.out⟩
      · have t3 : (inc == jnc) = false := by simpa using e3
        obtain rfl : b = false := by rw [HS.out, decide_eq_false e3, Bool.and_false]
        clear e2 e3
        go_enter Try.func79, Try.ntmps79
        go_wp2_with fail
        refine (sequal_any a n cap zs a2 n2 cap2 ys true E1.out _ H.out H2.out).mono ?_
        rintro e w1 ⟨rfl, hd⟩
        obtain ⟨c0, c1, c2, f0, f1, f2⟩ := KF.out.dr hd
        obtain ⟨d0, d1, d2, g0, g1, g2⟩ := KG.out.dr hd
        have HB1 := Lib.hid (below_dr HBl.out hd)
        clear hd
        go_wp2_with fail
        go_ret
        exact ⟨rfl, HB1.out⟩
    · have t2 : (p == q) = false := by simpa using e2
      obtain rfl : b = false := by rw [HS.out, decide_eq_false e2, Bool.false_and]
      clear e2
      go_enter Try.func79, Try.ntmps79
      go_wp2_with fail
      refine (sequal_any a n cap zs a2 n2 cap2 ys true E1.out _ H.out H2.out).mono ?_
      rintro e w1 ⟨rfl, hd⟩
      obtain ⟨c0, c1, c2, f0, f1, f2⟩ := KF.out.dr hd
      obtain ⟨d0, d1, d2, g0, g1, g2⟩ := KG.out.dr hd
      have HB1 := Lib.hid (below_dr HBl.out hd)
      clear hd
      go_wp2_with fail
      go_ret
      exact ⟨rfl, HB1.out⟩
  · have E1 := Lib.hid (decide_eq_false e1)
    obtain rfl : b = false := by rw [← HB.out]; unfold sameB; rw [decide_eq_false e1, Bool.false_and, Bool.false_and]
    clear e1
    go_enter Try.func79, Try.ntmps79
    go_wp2_with fail
    refine (sequal_any a n cap zs a2 n2 cap2 ys false E1.out _ H.out H2.out).mono ?_
    rintro e w1 ⟨rfl, hd⟩
    have HB1 := Lib.hid (below_dr HBl.out hd)
    clear hd
    go_wp2_with fail
    go_ret
    exact ⟨rfl, HB1.out⟩

/-- The six cells of both boxes behind something that leaves them alone. -/
abbrev Two6 (W : World) (F : Nat) (a : Option Addr) (n cap p : Nat) (inc : Int) (zs : List Int) (G : Nat) (b : Option Addr) (m cup q : Nat) (jnc : Int) (ys : List Int) (w' : World) : Prop :=
  w'.cell? ⟨F, 0, none⟩ = some (.slice a n cap) ∧ w'.cell? ⟨F, 1, none⟩ = some (.int .i64 p) ∧ w'.cell? ⟨F, 2, none⟩ = some (.int .i64 inc) ∧
  w'.cell? ⟨G, 0, none⟩ = some (.slice b m cup) ∧ w'.cell? ⟨G, 1, none⟩ = some (.int .i64 q) ∧ w'.cell? ⟨G, 2, none⟩ = some (.int .i64 jnc) ∧ Hid (Below W.heap.size W w' ∧ Two w' F a n cap p inc zs G b m cup q jnc ys)
section
variable {W u v : World} {F : Nat} {a : Option Addr} {n cap p : Nat} {inc : Int} {zs : List Int} {G : Nat} {b : Option Addr} {m cup q : Nat} {jnc : Int} {ys : List Int}
theorem two6_s (h : Two u F a n cap p inc zs G b m cup q jnc ys) (hb : Below W.heap.size W u) : Two6 W F a n cap p inc zs G b m cup q jnc ys u :=
  ⟨h.bx.c0, h.bx.c1, h.bx.c2, h.by'.c0, h.by'.c1, h.by'.c2, hb, h⟩
theorem two6_of (h : Two6 W F a n cap p inc zs G b m cup q jnc ys u) : Two u F a n cap p inc zs G b m cup q jnc ys := h.2.2.2.2.2.2.out.2
theorem two6_below (h : Two6 W F a n cap p inc zs G b m cup q jnc ys u) : Below W.heap.size W u := h.2.2.2.2.2.2.out.1
theorem two6_drew (h : Two W F a n cap p inc zs G b m cup q jnc ys) : Two6 W F a n cap p inc zs G b m cup q jnc ys W.drew := two6_s (h.under (Below.refl _ _).drew) (Below.refl _ _).drew
theorem two6_call (h : Two6 W F a n cap p inc zs G b m cup q jnc ys u) (hb : Below u.heap.size u v) : Two6 W F a n cap p inc zs G b m cup q jnc ys v :=
  two6_s ((two6_of h).under hb) ((two6_below h).trans (hb.mono (two6_below h).size))
end

end Go.Proofs.Ytcpfphlijeajiaa
