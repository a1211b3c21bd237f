/- Contracts of package bucket: outside, oversized, unfit, faulty, the closures. By the verifier's side. -/
import Derived.Test.YtjipmkgnndldpaaFBkMBkXBkY
import Derived.Test.YtjipmkgnndldpaaFBkF
import Derived.Test.YtjipmkgnndldpaaFCE
import Derived.Test.YtjipmkgnndldpaaFPwFPwG
import Derived.Test.YtjipmkgnndldpaaFKeepT
import Derived.BigRegion
import Derived.Laws.EntriesVeiled
namespace Go.Proofs.Ytjipmkgnndldpaa
open Go.RowKit
set_option linter.unusedSimpArgs false
set_option linter.unusedVariables false

/-- Valid, and not negative. -/
def okB (n d : Int) : Bool := okF n d && decide (0 ≤ n)
theorem okB_iff (n d : Int) : okB n d = true ↔ okF n d = true ∧ 0 ≤ n := by unfold okB; simp
/-- The terms as numbers that are not negative. -/
theorem okB_nat {n d : Int} (h : okB n d = true) : ∃ a b : Nat, n = a ∧ d = b ∧ a ≤ 1073741824 ∧ 1 ≤ b ∧ b ≤ 1073741824 := by
  obtain ⟨h1, h2⟩ := (okB_iff n d).1 h
  rw [okF_iff] at h1
  exact ⟨n.toNat, d.toNat, by omega, by omega, by omega, by omega, by omega⟩

abbrev bucketV (bn bd rn rd : Int) : Value := .agg #[.int .i64 bn, .int .i64 bd, .int .i64 rn, .int .i64 rd]
abbrev stairV (st ev ah : Int) : Value := .agg #[.int .i64 st, .int .i64 ev, .int .i64 ah]

/-- A bucket in a block. -/
structure Bk4 (w : World) (p : Nat) (bn bd rn rd : Int) : Prop where
  c0 : w.cell? ⟨p, 0, none⟩ = some (.int .i64 bn)
  c1 : w.cell? ⟨p, 1, none⟩ = some (.int .i64 bd)
  c2 : w.cell? ⟨p, 2, none⟩ = some (.int .i64 rn)
  c3 : w.cell? ⟨p, 3, none⟩ = some (.int .i64 rd)
theorem Bk4.lt {w : World} {p : Nat} {bn bd rn rd : Int} (h : Bk4 w p bn bd rn rd) : p < w.heap.size := lt_of_cell h.c0
theorem Bk4.below {w w' : World} {p : Nat} {bn bd rn rd : Int} (h : Bk4 w p bn bd rn rd) (hb : Below w.heap.size w w') : Bk4 w' p bn bd rn rd :=
  ⟨(hb.cell (p := ⟨p, 0, none⟩) h.lt).trans h.c0, (hb.cell (p := ⟨p, 1, none⟩) h.lt).trans h.c1, (hb.cell (p := ⟨p, 2, none⟩) h.lt).trans h.c2, (hb.cell (p := ⟨p, 3, none⟩) h.lt).trans h.c3⟩
theorem Bk4.new (w : World) (bn bd rn rd : Int) (t : TypeId) : Bk4 (w.alloc (.cells #[.int .i64 bn, .int .i64 bd, .int .i64 rn, .int .i64 rd] t)) w.heap.size bn bd rn rd :=
  ⟨by go_simp, by go_simp, by go_simp, by go_simp⟩
theorem Bk4.alloc {w : World} {p : Nat} {bn bd rn rd : Int} (h : Bk4 w p bn bd rn rd) (o : Obj) : Bk4 (w.alloc o) p bn bd rn rd := h.below ((Below.refl _ _).alloc (Nat.le_refl _) o)

set_option maxHeartbeats 800000 in
theorem outside_any (n lo hi : Int) (w : World) : Calls Try.prog 183 #[.int .i64 n, .int .i64 lo, .int .i64 hi] w fun e w' => e = .returned (.bool (decide (n < lo) || decide (hi < n))) ∧ w = w' := by
  by_cases h1 : n < lo
  · rw [show (decide (n < lo) || decide (hi < n)) = true by simp [h1]]
    go_enter Try.func183, Try.ntmps183
    go_wp2_with fail
    go_ret
    exact ⟨rfl, rfl⟩
  · by_cases h2 : hi < n
    · rw [show (decide (n < lo) || decide (hi < n)) = true by simp [h2]]
      go_enter Try.func183, Try.ntmps183
      go_wp2_with fail
      go_ret
      exact ⟨rfl, rfl⟩
    · rw [show (decide (n < lo) || decide (hi < n)) = false by simp [h1, h2]]
      go_enter Try.func183, Try.ntmps183
      go_wp2_with fail
      go_ret
      exact ⟨rfl, rfl⟩

/-- A size that is out of its range. -/
def overB (n : Int) : Bool := decide (n < 0) || decide (1500 < n)
set_option maxHeartbeats 400000 in
theorem oversized_any (n : Int) (w : World) : Calls Try.prog 261 #[.int .i64 n] w fun e w' => e = .returned (.bool (overB n)) ∧ w = w' := by
  unfold overB
  generalize hb : (decide (n < 0) || decide (1500 < n)) = b
  have HB := Lib.hid hb
  clear hb
  go_enter Try.func261, Try.ntmps261
  go_wp2_with fail
  refine (outside_any n 0 1500 _).mono ?_
  rintro e w1 ⟨rfl, rfl⟩
  rw [HB.out]
  go_wp2_with fail
  go_ret
  exact ⟨rfl, rfl⟩

set_option maxHeartbeats 800000 in
theorem unfit_any (n d : Int) (c : Bool) (hc : okB n d = c) (w : World) : Calls Try.prog 207 #[.agg #[.int .i64 n, .int .i64 d]] w (Says (.bool (!c)) w) := by
  cases hv : okF n d with
  | false =>
    obtain rfl : c = false := by rw [← hc]; unfold okB; rw [hv]; rfl
    have HV := Lib.hid hv
    clear hv hc
    go_enter Try.func207, Try.ntmps207
    go_wp2_with fail
    refine (valid_all n d _ HV.out _).mono ?_
    rintro e w1 ⟨rfl, hb⟩
    have HBB := Lib.hid (fr_one1 hb)
    clear hb
    go_wp2_with fail
    go_ret
    exact ⟨rfl, HBB.out⟩
  | true =>
    by_cases h0 : n < 0
    · obtain rfl : c = false := by rw [← hc]; unfold okB; rw [hv, decide_eq_false (by omega)]; rfl
      have HV := Lib.hid hv
      clear hv hc
      go_enter Try.func207, Try.ntmps207
      go_wp2_with fail
      refine (valid_all n d _ HV.out _).mono ?_
      rintro e w1 ⟨rfl, hb⟩
      have HBB := Lib.hid (fr_one1 hb)
      obtain ⟨hc1, hf1⟩ := bcell hb
      clear hb
      go_wp2_with fail
      go_ret
      exact ⟨rfl, HBB.out⟩
    · obtain rfl : c = true := by rw [← hc]; unfold okB; rw [hv, decide_eq_true (by omega)]; rfl
      have t0 : decide (n < 0) = false := decide_eq_false h0
      have HV := Lib.hid hv
      clear hv hc
      go_enter Try.func207, Try.ntmps207
      go_wp2_with fail
      refine (valid_all n d _ HV.out _).mono ?_
      rintro e w1 ⟨rfl, hb⟩
      have HBB := Lib.hid (fr_one1 hb)
      obtain ⟨hc1, hf1⟩ := bcell hb
      clear hb
      go_wp2_with fail
      go_ret
      exact ⟨rfl, HBB.out⟩

set_option maxHeartbeats 800000 in
theorem faulty_any (bn bd rn rd : Int) (c : Bool) (hc : (okB bn bd && okB rn rd) = c) (w : World) : Calls Try.prog 114 #[bucketV bn bd rn rd] w (Says (.bool (!c)) w) := by
  have HX := Lib.hid (Bk4.new w bn bd rn rd 46)
  cases h1 : okB bn bd with
  | false =>
    obtain rfl : c = false := by rw [← hc, h1]; rfl
    have HV := Lib.hid h1
    clear h1 hc
    go_enter Try.func114, Try.ntmps114
    go_wp2_with fail
    refine (unfit_any bn bd _ HV.out _).mono ?_
    rintro e w1 ⟨rfl, hb⟩
    have HBB := Lib.hid (fr_one1 hb)
    clear hb
    go_wp2_with fail
    go_ret
    exact ⟨rfl, HBB.out⟩
  | true =>
    obtain rfl : c = okB rn rd := by rw [← hc, h1]; rfl
    cases h2 : okB rn rd with
    | false =>
      have HV := Lib.hid (And.intro h1 h2)
      clear h1 h2 hc
      go_enter Try.func114, Try.ntmps114
      go_wp2_with fail
      refine (unfit_any bn bd _ HV.out.1 _).mono ?_
      rintro e w1 ⟨rfl, hb⟩
      obtain ⟨c0, c1, c2, c3⟩ := HX.out.below hb
      have HBB := Lib.hid (fr_one1 hb)
      clear hb
      go_wp2_with fail
      clear c0 c1 c2 c3
      refine (unfit_any rn rd _ HV.out.2 _).mono ?_
      rintro e w2 ⟨rfl, hb⟩
      have HB2 := Lib.hid (HBB.out.trans (hb.mono HBB.out.size))
      clear hb
      go_wp2_with fail
      go_ret
      exact ⟨rfl, HB2.out⟩
    | true =>
      have HV := Lib.hid (And.intro h1 h2)
      clear h1 h2 hc
      go_enter Try.func114, Try.ntmps114
      go_wp2_with fail
      refine (unfit_any bn bd _ HV.out.1 _).mono ?_
      rintro e w1 ⟨rfl, hb⟩
      obtain ⟨c0, c1, c2, c3⟩ := HX.out.below hb
      have HBB := Lib.hid (fr_one1 hb)
      clear hb
      go_wp2_with fail
      clear c0 c1 c2 c3
      refine (unfit_any rn rd _ HV.out.2 _).mono ?_
      rintro e w2 ⟨rfl, hb⟩
      have HB2 := Lib.hid (HBB.out.trans (hb.mono HBB.out.size))
      clear hb
      go_wp2_with fail
      go_ret
      exact ⟨rfl, HB2.out⟩

/-! ## The closures -/

set_option maxHeartbeats 1600000 in
theorem passed1_any {w : World} {bp rp : Nat} {bn bd rn rd T : Nat} (hx : Box w bp bn bd) (hy : Box w rp rn rd) (b0 : bn ≤ 1073741824) (b1 : 1 ≤ bd) (b2 : bd ≤ 1073741824) (r0 : rn ≤ 1073741824) (r1 : 1 ≤ rd) (r2 : rd ≤ 120) (hT : T ≤ 1000) :
    ClosG1 208 #[.pointer (some ⟨rp, 0, none⟩), .pointer (some ⟨bp, 0, none⟩)] T (tokF bn bd rn rd) w := by
  rintro ti t v w' rfl ht1 ht hv' hbw
  show Calls Try.prog 208 #[.int .i64 t, .pointer (some ⟨rp, 0, none⟩), .pointer (some ⟨bp, 0, none⟩)] w' (Drew (.int .i64 v) w')
  obtain ⟨c0, c1, _, _⟩ := hx.below hbw
  obtain ⟨d0, d1, _, _⟩ := hy.below hbw
  obtain ⟨j, rfl⟩ : ∃ j, t = j + 1 := ⟨t - 1, by omega⟩
  have hk := tok_prog (bn := bn) (bd := bd) (rn := rn) (rd := rd) (k := j + 1) b1 r1 (by omega)
  rw [show j + 1 - 1 = j by omega] at hk
  have ej : ((j + 1 : Nat) : Int) - 1 = (j : Int) := by omega
  obtain ⟨G, hG⟩ : ∃ G : Nat, rn * j = G := ⟨_, rfl⟩
  have hGb : G ≤ 1073741824 * 1000 := by rw [← hG]; exact Nat.mul_le_mul r0 (by omega)
  have eG : (rn : Int) * (j : Int) = (G : Int) := by rw [← hG]; exact (Int.natCast_mul rn j).symm
  rw [hG] at hk
  obtain ⟨q, hq⟩ : ∃ q : Nat, G / rd = q := ⟨_, rfl⟩
  obtain ⟨r, hr⟩ : ∃ r : Nat, G % rd = r := ⟨_, rfl⟩
  have hrb : r < rd := by rw [← hr]; exact Nat.mod_lt _ (by omega)
  have hqb : q ≤ G := by rw [← hq]; exact Nat.div_le_self _ _
  rw [hq, hr] at hk
  have eq1 : (G : Int).tdiv (rd : Int) = (q : Int) := by rw [← hq]; exact (Int.ofNat_tdiv G rd).symm
  have er1 : (G : Int).tmod (rd : Int) = (r : Int) := by rw [← hr]; exact (Int.ofNat_tmod G rd).symm
  have n0 : ¬ (rd : Int) = 0 := by omega
  have n1 : ¬ rd = 0 := by omega
  obtain ⟨A, hA⟩ : ∃ A : Nat, bn * rd = A := ⟨_, rfl⟩
  obtain ⟨B, hB⟩ : ∃ B : Nat, r * bd = B := ⟨_, rfl⟩
  obtain ⟨C, hC⟩ : ∃ C : Nat, bd * rd = C := ⟨_, rfl⟩
  have eA : (bn : Int) * (rd : Int) = (A : Int) := by rw [← hA]; exact (Int.natCast_mul bn rd).symm
  have eB : (r : Int) * (bd : Int) = (B : Int) := by rw [← hB]; exact (Int.natCast_mul r bd).symm
  have eC : (bd : Int) * (rd : Int) = (C : Int) := by rw [← hC]; exact (Int.natCast_mul bd rd).symm
  have hAb : A ≤ 1073741824 * 120 := by rw [← hA]; exact Nat.mul_le_mul b0 r2
  have hBb : B ≤ 120 * 1073741824 := by rw [← hB]; exact Nat.mul_le_mul (by omega) b2
  have hCb : C ≤ 1073741824 * 120 := by rw [← hC]; exact Nat.mul_le_mul b2 r2
  have hC1 : 1 ≤ C := by rw [← hC]; exact Nat.mul_pos b1 r1
  rw [hA, hB, hC] at hk
  obtain ⟨Z, hZ⟩ : ∃ Z : Nat, (A + B) / C = Z := ⟨_, rfl⟩
  have eZ : ((A : Int) + (B : Int)).tdiv (C : Int) = (Z : Int) := by rw [← hZ]; exact (Int.ofNat_tdiv (A + B) C).symm
  have hZb : Z ≤ A + B := by rw [← hZ]; exact Nat.div_le_self _ _
  rw [hZ] at hk
  have ev : (q : Int) + (Z : Int) = v := by rw [← hv']; show _ = ((tokN bn bd rn rd (j + 1) : Nat) : Int); rw [← hk]; omega
  have n2 : ¬ (C : Int) = 0 := by omega
  have n3 : ¬ C = 0 := by omega
  have EG := Lib.hid eG
  have EV := Lib.hid ev
  clear hk hG hq hr hA hB hC hZ hv' hx hy hbw ev
  go_enter Try.func208, Try.ntmps208
  go_wp2_with fail
  go_quiet (fail)
  go_wp2_with fail
  rw [EV.out]
  go_ret
  exact ⟨rfl, _, rfl⟩

end Go.Proofs.Ytjipmkgnndldpaa

namespace Go.Proofs.Ytjipmkgnndldpaa
open Go.RowKit
set_option linter.unusedSimpArgs false
set_option linter.unusedVariables false

/-- What stands when burst and rate lie in their boxes. -/
structure PB (w : World) (p5 p4 : Nat) (bn bd rn rd : Int) (u : World) : Prop where
  b : Box u p4 bn bd
  r : Box u p5 rn rd
  res : Cur3 u (w.heap.size + 1) (.slice none 0 0) (.int .i64 0) (.int .i64 0)
  below : Below w.heap.size w u
theorem PB.call {w u v : World} {p5 p4 : Nat} {bn bd rn rd : Int} (h : PB w p5 p4 bn bd rn rd u) (hb : Below u.heap.size u v) : PB w p5 p4 bn bd rn rd v :=
  ⟨h.b.below hb, h.r.below hb, h.res.below hb, h.below.trans (hb.mono h.below.size)⟩

theorem PB.two {w W : World} {bn bd rn rd : Int} (hR : Cur3 W (w.heap.size + 1) (.slice none 0 0) (.int .i64 0) (.int .i64 0)) (hB : Below w.heap.size w W) (t : TypeId) :
    PB w (W.heap.size + 1) W.heap.size bn bd rn rd ((W.alloc (.cells #[.int .i64 bn, .int .i64 bd] t)).alloc (.cells #[.int .i64 rn, .int .i64 rd] t)).drew := by
  have h1 : PB w (W.heap.size + 1) W.heap.size bn bd rn rd ((W.alloc (.cells #[.int .i64 bn, .int .i64 bd] t)).alloc (.cells #[.int .i64 rn, .int .i64 rd] t)) := by
    have hb : Below W.heap.size W ((W.alloc (.cells #[.int .i64 bn, .int .i64 bd] t)).alloc (.cells #[.int .i64 rn, .int .i64 rd] t)) := ((Below.refl _ _).alloc (Nat.le_refl _) _).alloc (by simp) _
    refine ⟨(Box.new W bn bd t).alloc _, ?_, hR.below hb, hB.trans (hb.mono hB.size)⟩
    have := Box.new (W.alloc (.cells #[.int .i64 bn, .int .i64 bd] t)) rn rd t
    rwa [show (W.alloc (.cells #[.int .i64 bn, .int .i64 bd] t)).heap.size = W.heap.size + 1 from by simp] at this
  exact h1.call (Below.refl _ _).drew
theorem PB.two' {w W : World} {bn bd rn rd : Int} (hR : Cur3 W (w.heap.size + 1) (.slice none 0 0) (.int .i64 0) (.int .i64 0)) (hB : Below w.heap.size w W) (t : TypeId) :
    PB w W.heap.size (W.heap.size + 1) bn bd rn rd ((W.alloc (.cells #[.int .i64 rn, .int .i64 rd] t)).alloc (.cells #[.int .i64 bn, .int .i64 bd] t)).drew := by
  have h1 : PB w W.heap.size (W.heap.size + 1) bn bd rn rd ((W.alloc (.cells #[.int .i64 rn, .int .i64 rd] t)).alloc (.cells #[.int .i64 bn, .int .i64 bd] t)) := by
    have hb : Below W.heap.size W ((W.alloc (.cells #[.int .i64 rn, .int .i64 rd] t)).alloc (.cells #[.int .i64 bn, .int .i64 bd] t)) := ((Below.refl _ _).alloc (Nat.le_refl _) _).alloc (by simp) _
    refine ⟨?_, (Box.new W rn rd t).alloc _, hR.below hb, hB.trans (hb.mono hB.size)⟩
    have := Box.new (W.alloc (.cells #[.int .i64 rn, .int .i64 rd] t)) bn bd t
    rwa [show (W.alloc (.cells #[.int .i64 rn, .int .i64 rd] t)).heap.size = W.heap.size + 1 from by simp] at this
  exact h1.call (Below.refl _ _).drew

set_option maxRecDepth 100000 in
set_option maxHeartbeats 3200000 in
theorem passed_ok {bn bd rn rd : Nat} (b0 : bn ≤ 1073741824) (b1 : 1 ≤ bd) (b2 : bd ≤ 1073741824) (r0 : rn ≤ 1073741824) (r1 : 1 ≤ rd) (r2 : rd ≤ 1073741824) (w : World) (P : Ending → World → Prop)
    (hp1 : rd ≤ 120 → ∀ e w', GivesE (tokE bn bd rn rd) w e w' → P e w') (hp2 : 120 < rd → ∀ e w', GivesBad 3 w e w' → P e w') :
    Calls Try.prog 115 #[bucketV bn bd rn rd] w P := by
  have HP1 := Lib.hid hp1
  have HP2 := Lib.hid hp2
  clear hp1 hp2
  have hmf : ∀ (fn : Fn) (first cap : Array Value) (w : World), (Instr.makeFunc fn first cap).run Try.prog w = .ok (.func fn first cap) w := fun _ _ _ _ => rfl
  obtain ⟨W, hW⟩ : ∃ W, (w.alloc (.cells #[.int .i64 bn, .int .i64 bd, .int .i64 rn, .int .i64 rd] 46)).alloc (.cells #[.slice none 0 0, .int .i64 0, .int .i64 0] 38) = W := ⟨_, rfl⟩
  have hX : Bk4 W w.heap.size bn bd rn rd := by rw [← hW]; exact (Bk4.new w bn bd rn rd _).alloc _
  have hR : Cur3 W (w.heap.size + 1) (.slice none 0 0) (.int .i64 0) (.int .i64 0) := by rw [← hW]; have := Cur3.new (w.alloc (.cells #[.int .i64 bn, .int .i64 bd, .int .i64 rn, .int .i64 rd] 46)) (.slice none 0 0) (.int .i64 0) (.int .i64 0) 38; rwa [show (w.alloc (.cells #[.int .i64 bn, .int .i64 bd, .int .i64 rn, .int .i64 rd] 46)).heap.size = w.heap.size + 1 from by simp] at this
  have hB : Below w.heap.size w W := by rw [← hW]; exact ((Below.refl _ _).alloc (Nat.le_refl _) _).alloc (by simp) _
  have hs : W.heap.size = w.heap.size + 1 + 1 := by rw [← hW]; simp
  have HX := Lib.hid hX
  have HR := Lib.hid hR
  have HB := Lib.hid hB
  have HS := Lib.hid hs
  have HW := Lib.hid hW
  clear hX hR hB hs hW
  go_enter Try.func115, Try.ntmps115
  go_upto_region 1 with fail
  rw [HW.out]
  go_cut [4, 5] (fun s4 s5 wx => ∃ p4 p5 : Nat, s4 = .pointer (some ⟨p4, 0, none⟩) ∧ s5 = .pointer (some ⟨p5, 0, none⟩) ∧ Hid (PB w p5 p4 bn bd rn rd wx))
  case first =>
    obtain ⟨c0, c1, c2, c3⟩ := HX.out
    have hs := HS.out
    have l1 : w.heap.size < W.heap.size := by omega
    have l2 : ¬ w.heap.size = W.heap.size := by omega
    have l3 : ¬ W.heap.size = w.heap.size := by omega
    have l4 : ¬ w.heap.size = W.heap.size + 1 := by omega
    have l5 : ¬ W.heap.size + 1 = w.heap.size := by omega
    have l6 : w.heap.size < W.heap.size + 1 := by omega
    clear hs
    have P1 := Lib.hid (PB.two (bn := bn) (bd := bd) (rn := rn) (rd := rd) HR.out HB.out 23)
    have P2 := Lib.hid (PB.two' (bn := bn) (bd := bd) (rn := rn) (rd := rd) HR.out HB.out 23)
    go_region
    · go_wp2_with fail
      go_meet
      exact ⟨_, _, rfl, rfl, P1⟩
    · go_wp2_with fail
      go_meet
      exact ⟨_, _, rfl, rfl, P2⟩
  case rest =>
    obtain ⟨p4, p5, rfl, rfl, HP⟩ := hcut
    obtain ⟨u1, rfl⟩ : ∃ u : World, u = wc := ⟨_, rfl⟩
    obtain ⟨d0, d1, d2, d3⟩ := HP.out.r
    by_cases h120 : 120 < rd
    · have h2 : (120 : Int) < (rd : Int) := by omega
      obtain ⟨e0, e1, e2, e3, e4, e5⟩ := HP.out.res
      go_wp2_with fail
      refine bodyPost_ret (v := .tuple #[curV none 0 0 0 0, .int .i64 3]) (by simp [results, Try.results115, go_sem, e0, e1, e2, e3, e4, e5]) rfl (HP2.out h120 _ _ ⟨rfl, ?_⟩)
      exact below_set3 HP.out.below (by omega) _ _ _
    · have h2 : ¬ (120 : Int) < (rd : Int) := by omega
      have HCL := Lib.hid (passed1_any (T := 1 + 2 * rd) HP.out.b HP.out.r b0 b1 b2 r0 r1 (by omega) (by omega))
      have HE := Lib.hid (show ∀ (args : Array Value) (w : World), (callFunc 208 args).run Try.prog w = .ok (.enter 208 args) w from enters_of Try.func208 (by kernel_rfl) rfl)
      have HF := Lib.hid (And.intro (And.intro b0 (And.intro b1 b2)) (And.intro r0 r1))
      clear b0 b1 b2 r0 r1
      go_wp2_with fail
      refine (fromZero_any1 208 #[.pointer (some ⟨p5, 0, none⟩), .pointer (some ⟨p4, 0, none⟩)] (tokF bn bd rn rd) (tokF bn bd rn rd) 1 (by omega) 1 rd (fun t _ => ?_) (by omega) rn HF.out.2.2 (by omega) (by omega) (fun t ht => ?_) (tok_per HF.out.1.2.1 HF.out.2.2) _ HE.out HCL.out).mono ?_
      · by_cases h0 : t = 0
        · subst h0; rfl
        · rw [if_neg h0]
      · have := tok_val HF.out.1.2.1 HF.out.2.2 HF.out.1.1 HF.out.2.1 (bn := bn) (rn := rn) (t := t) (by omega); omega
      rintro e u2 hg
      have hg := hg.toE (tok_tame HF.out.1.2.1 HF.out.2.2 HF.out.1.1 HF.out.2.1)
      obtain ⟨hb, ⟨a, n, cap, zs, p, inc, rfl, hr, hf, hx⟩ | ⟨rfl, hno⟩⟩ := hg
      · have HQ := Lib.hid (GivesE.post (b := w.heap.size + 1) HP.out.below (Nat.le_succ _) HP.out.res.lt hb hr hx hf)
        obtain ⟨e0, e1, e2, e3, e4, e5⟩ := HP.out.res.below hb
        clear hb hr hx hf
        go_wp2_with fail
        exact bodyPost_ret (v := .tuple #[curV a n cap p inc, .int .i64 0]) (by simp [results, Try.results115, go_sem, e0, e1, e2]) rfl (HP1.out (by omega) _ _ HQ.out)
      · have HQ := Lib.hid (GivesE.postNo (b := w.heap.size + 1) HP.out.below (Nat.le_succ _) hb hno)
        obtain ⟨e0, e1, e2, e3, e4, e5⟩ := HP.out.res.below hb
        clear hb hno
        go_wp2_with fail
        exact bodyPost_ret (v := .tuple #[curV none 0 0 0 0, .int .i64 3]) (by simp [results, Try.results115, go_sem, e0, e1, e2]) rfl (HP1.out (by omega) _ _ HQ.out)


/-! ## What Token and Steps answer, at whatever numbers -/

/-- The answer with these values: their curve in normal form, or the error that there is none. -/
def EIs (E : Nat → Option Int) (zs : List Int) (p inc c : Int) : Prop :=
  (c = 0 ∧ ∃ q : Nat, p = q ∧ EForm zs q inc E) ∨ (c = 3 ∧ zs = [] ∧ p = 0 ∧ inc = 0 ∧ ¬ ECan E)
theorem EIs.ce {E : Nat → Option Int} {zs : List Int} {p inc c : Int} (h : EIs E zs p inc c) {w w' : World} {e : Ending} (k : GivesE E w e w') : GivesCE zs p inc c w e w' := by
  rcases h with ⟨rfl, q, rfl, hf⟩ | ⟨rfl, rfl, rfl, rfl, hn⟩
  · exact k.ce hf
  · exact k.ceNo hn
theorem eis_ex (E : Nat → Option Int) : ∃ (zs : List Int) (p inc c : Int), EIs E zs p inc c := by
  by_cases h : ECan E
  · obtain ⟨zs, p, inc, hf⟩ := h.form_ex
    exact ⟨zs, p, inc, 0, .inl ⟨rfl, p, rfl, hf⟩⟩
  · exact ⟨[], 0, 0, 3, .inr ⟨rfl, rfl, rfl, rfl, h⟩⟩
/-- What passed answers, and Token for buckets that are not faulty. -/
def PasIs (bn bd rn rd : Nat) (zs : List Int) (p inc c : Int) : Prop :=
  (rd ≤ 120 ∧ EIs (tokE bn bd rn rd) zs p inc c) ∨ (120 < rd ∧ c = 3 ∧ zs = [] ∧ p = 0 ∧ inc = 0)
theorem pasIs_ex (bn bd rn rd : Nat) : ∃ (zs : List Int) (p inc c : Int), PasIs bn bd rn rd zs p inc c := by
  by_cases h : rd ≤ 120
  · obtain ⟨zs, p, inc, c, k⟩ := eis_ex (tokE bn bd rn rd)
    exact ⟨zs, p, inc, c, .inl ⟨h, k⟩⟩
  · exact ⟨[], 0, 0, 3, .inr ⟨by omega, rfl, rfl, rfl, rfl⟩⟩
/-- What Token answers. -/
def TokIs (bn bd rn rd : Int) (zs : List Int) (p inc c : Int) : Prop :=
  ((okB bn bd && okB rn rd) = true ∧ PasIs bn.toNat bd.toNat rn.toNat rd.toNat zs p inc c) ∨ ((okB bn bd && okB rn rd) = false ∧ c = 2 ∧ zs = [] ∧ p = 0 ∧ inc = 0)
theorem tokIs_ex (bn bd rn rd : Int) : ∃ (zs : List Int) (p inc c : Int), TokIs bn bd rn rd zs p inc c := by
  cases h : (okB bn bd && okB rn rd) with
  | true =>
    obtain ⟨zs, p, inc, c, k⟩ := pasIs_ex bn.toNat bd.toNat rn.toNat rd.toNat
    exact ⟨zs, p, inc, c, .inl ⟨h, k⟩⟩
  | false => exact ⟨[], 0, 0, 2, .inr ⟨h, rfl, rfl, rfl, rfl⟩⟩
/-- A staircase within the limits. -/
def okS (st ev ah : Int) : Bool := decide (0 ≤ st) && decide (st ≤ 1073741824) && decide (1 ≤ ev) && decide (ev ≤ 120) && decide (0 ≤ ah) && decide (ah ≤ 1048576)
theorem okS_iff (st ev ah : Int) : okS st ev ah = true ↔ 0 ≤ st ∧ st ≤ 1073741824 ∧ 1 ≤ ev ∧ ev ≤ 120 ∧ 0 ≤ ah ∧ ah ≤ 1048576 := by
  unfold okS; simp only [Bool.and_eq_true, decide_eq_true_eq]; omega
def StepIs (st ev ah : Int) (zs : List Int) (p inc c : Int) : Prop :=
  (okS st ev ah = true ∧ EIs (stairE st.toNat ev.toNat ah.toNat) zs p inc c) ∨ (okS st ev ah = false ∧ c = 2 ∧ zs = [] ∧ p = 0 ∧ inc = 0)
theorem stepIs_ex (st ev ah : Int) : ∃ (zs : List Int) (p inc c : Int), StepIs st ev ah zs p inc c := by
  cases h : okS st ev ah with
  | true =>
    obtain ⟨zs, p, inc, c, k⟩ := eis_ex (stairE st.toNat ev.toNat ah.toNat)
    exact ⟨zs, p, inc, c, .inl ⟨h, k⟩⟩
  | false => exact ⟨[], 0, 0, 2, .inr ⟨h, rfl, rfl, rfl, rfl⟩⟩

theorem GivesCE.post {w w1 w2 : World} {b : Nat} (hB : Below w.heap.size w w1) (hb1 : w.heap.size ≤ b) (hb2 : b < w1.heap.size) (h2 : Below w1.heap.size w1 w2) {a : Option Addr} {n cap : Nat} {zs : List Int} {p inc c : Int} (hr : RowZ w2 a n cap zs)
    (hx : ∀ x, a = some x → w1.heap.size ≤ x.block) :
    GivesCE zs p inc c w (.returned (.tuple #[curV a n cap p inc, .int .i64 c])) (((w2.setCell ⟨b, 0, none⟩ (.slice a n cap)).setCell ⟨b, 1, none⟩ (.int .i64 p)).setCell ⟨b, 2, none⟩ (.int .i64 inc)) := by
  have hne : ∀ x : Addr, a = some x → 1 ≤ n → x.block ≠ b := fun x h _ => by have := hx x h; omega
  exact ⟨a, n, cap, rfl, below_set3 (hB.trans (h2.mono hB.size)) hb1 _ _ _, ((hr.store hne _ _).store hne _ _).store hne _ _, fun x h => by have := hx x h; have := hB.size; omega⟩
theorem GivesCE.postBad {w w1 : World} {b : Nat} (hB : Below w.heap.size w w1) (hb1 : w.heap.size ≤ b) (c : Int) :
    GivesCE [] 0 0 c w (.returned (.tuple #[curV none 0 0 0 0, .int .i64 c])) (((w1.setCell ⟨b, 0, none⟩ (.slice none 0 0)).setCell ⟨b, 1, none⟩ (.int .i64 0)).setCell ⟨b, 2, none⟩ (.int .i64 0)) :=
  ⟨none, 0, 0, rfl, below_set3 hB hb1 _ _ _, rowZ_none _, fun x hx => by cases hx⟩

theorem passed_ce {bn bd rn rd : Nat} {zs : List Int} {p inc c : Int} (h : PasIs bn bd rn rd zs p inc c) (b0 : bn ≤ 1073741824) (b1 : 1 ≤ bd) (b2 : bd ≤ 1073741824) (r0 : rn ≤ 1073741824) (r1 : 1 ≤ rd) (r2 : rd ≤ 1073741824) (w : World) :
    Calls Try.prog 115 #[bucketV bn bd rn rd] w (GivesCE zs p inc c w) :=
  passed_ok b0 b1 b2 r0 r1 r2 w _ (fun hl e w' k => by
    rcases h with ⟨h1, h2⟩ | ⟨h1, _⟩
    · exact h2.ce k
    · omega) (fun hl e w' k => by
    rcases h with ⟨h1, h2⟩ | ⟨h1, rfl, rfl, rfl, rfl⟩
    · omega
    · exact k.ce)

/-- The two blocks that a function of a bucket makes first: the bucket, and its result. -/
theorem bucket_boxes (w : World) (bn bd rn rd : Int) {W : World} (hW : (w.alloc (.cells #[.int .i64 bn, .int .i64 bd, .int .i64 rn, .int .i64 rd] 46)).alloc (.cells #[.slice none 0 0, .int .i64 0, .int .i64 0] 38) = W) :
    Bk4 W w.heap.size bn bd rn rd ∧ Cur3 W (w.heap.size + 1) (.slice none 0 0) (.int .i64 0) (.int .i64 0) ∧ Below w.heap.size w W := by
  subst hW
  refine ⟨(Bk4.new w bn bd rn rd _).alloc _, ?_, ((Below.refl _ _).alloc (Nat.le_refl _) _).alloc (by simp) _⟩
  have := Cur3.new (w.alloc (.cells #[.int .i64 bn, .int .i64 bd, .int .i64 rn, .int .i64 rd] 46)) (.slice none 0 0) (.int .i64 0) (.int .i64 0) 38
  rwa [show (w.alloc (.cells #[.int .i64 bn, .int .i64 bd, .int .i64 rn, .int .i64 rd] 46)).heap.size = w.heap.size + 1 from by simp] at this

set_option maxHeartbeats 1600000 in
theorem token_ce {bn bd rn rd : Int} {zs : List Int} {p inc c : Int} (h : TokIs bn bd rn rd zs p inc c) (w : World) :
    Calls Try.prog 33 #[bucketV bn bd rn rd] w (GivesCE zs p inc c w) := by
  obtain ⟨W, hW⟩ : ∃ W, (w.alloc (.cells #[.int .i64 bn, .int .i64 bd, .int .i64 rn, .int .i64 rd] 46)).alloc (.cells #[.slice none 0 0, .int .i64 0, .int .i64 0] 38) = W := ⟨_, rfl⟩
  obtain ⟨hX, hR, hB⟩ := bucket_boxes w bn bd rn rd hW
  have HX := Lib.hid hX
  have HR := Lib.hid hR
  have HB := Lib.hid hB
  have HW := Lib.hid hW
  clear hX hR hB hW
  rcases h with ⟨h1, h2⟩ | ⟨h1, rfl, rfl, rfl, rfl⟩
  · have h1' := h1
    rw [Bool.and_eq_true] at h1'
    obtain ⟨x1, x2, rfl, rfl, m1, m2, m3⟩ := okB_nat h1'.1
    obtain ⟨x3, x4, rfl, rfl, m4, m5, m6⟩ := okB_nat h1'.2
    rw [Int.toNat_natCast, Int.toNat_natCast, Int.toNat_natCast, Int.toNat_natCast] at h2
    have H1 := Lib.hid h1
    have H2 := Lib.hid h2
    have HM := Lib.hid (And.intro (And.intro m1 (And.intro m2 m3)) (And.intro m4 (And.intro m5 m6)))
    clear h1 h1' h2 m1 m2 m3 m4 m5 m6
    go_enter Try.func33, Try.ntmps33
    go_upto_region 1 with fail
    rw [HW.out]
    obtain ⟨c0, c1, c2, c3⟩ := HX.out
    go_wp2_with fail
    clear c0 c1 c2 c3
    refine (faulty_any _ _ _ _ _ H1.out _).mono ?_
    rintro e u1 ⟨rfl, hb⟩
    have HX1 := Lib.hid (HX.out.below hb)
    have HR1 := Lib.hid (HR.out.below hb)
    have HB1 := Lib.hid (HB.out.trans (hb.mono HB.out.size))
    clear hb
    obtain ⟨c0, c1, c2, c3⟩ := HX1.out
    go_wp2_with fail
    clear c0 c1 c2 c3
    refine (passed_ce H2.out HM.out.1.1 HM.out.1.2.1 HM.out.1.2.2 HM.out.2.1 HM.out.2.2.1 HM.out.2.2.2 _).mono ?_
    rintro e u2 ⟨a, n, cap, rfl, hb, hr, hx⟩
    have HQ := Lib.hid (GivesCE.post (b := w.heap.size + 1) (p := p) (inc := inc) (c := c) HB1.out (Nat.le_succ _) HR1.out.lt hb hr hx)
    obtain ⟨e0, e1, e2, e3, e4, e5⟩ := HR1.out.below hb
    clear hb hr hx
    go_wp2_with fail
    exact bodyPost_ret (v := .tuple #[curV a n cap p inc, .int .i64 c]) (by simp [results, Try.results33, go_sem, e0, e1, e2]) rfl HQ.out
  · have H1 := Lib.hid h1
    clear h1
    go_enter Try.func33, Try.ntmps33
    go_upto_region 1 with fail
    rw [HW.out]
    obtain ⟨c0, c1, c2, c3⟩ := HX.out
    go_wp2_with fail
    clear c0 c1 c2 c3
    refine (faulty_any _ _ _ _ _ H1.out _).mono ?_
    rintro e u1 ⟨rfl, hb⟩
    have HR1 := Lib.hid (HR.out.below hb)
    have HB1 := Lib.hid (HB.out.trans (hb.mono HB.out.size))
    have HQ := Lib.hid (GivesCE.postBad (b := w.heap.size + 1) HB1.out (Nat.le_succ _) 2)
    clear hb
    obtain ⟨e0, e1, e2, e3, e4, e5⟩ := HR1.out
    go_wp2_with fail
    exact bodyPost_ret (v := .tuple #[curV none 0 0 0 0, .int .i64 2]) (by simp [results, Try.results33, go_sem, e0, e1, e2]) rfl HQ.out

/-! ## Staircases -/

/-- A staircase in a block. -/
theorem stair_box (w : World) (st ev ah : Int) {W : World} (hW : (w.alloc (.cells #[.int .i64 st, .int .i64 ev, .int .i64 ah] 100)).alloc (.cells #[.slice none 0 0, .int .i64 0, .int .i64 0] 38) = W) :
    Cur3 W w.heap.size (.int .i64 st) (.int .i64 ev) (.int .i64 ah) ∧ Cur3 W (w.heap.size + 1) (.slice none 0 0) (.int .i64 0) (.int .i64 0) ∧ Below w.heap.size w W := by
  subst hW
  have hz : Below (w.alloc (.cells #[.int .i64 st, .int .i64 ev, .int .i64 ah] 100)).heap.size (w.alloc (.cells #[.int .i64 st, .int .i64 ev, .int .i64 ah] 100)) ((w.alloc (.cells #[.int .i64 st, .int .i64 ev, .int .i64 ah] 100)).alloc (.cells #[.slice none 0 0, .int .i64 0, .int .i64 0] 38)) := (Below.refl _ _).alloc (Nat.le_refl _) _
  refine ⟨(Cur3.new w (.int .i64 st) (.int .i64 ev) (.int .i64 ah) _).below hz, ?_, ((Below.refl _ _).alloc (Nat.le_refl _) _).alloc (by simp) _⟩
  have := Cur3.new (w.alloc (.cells #[.int .i64 st, .int .i64 ev, .int .i64 ah] 100)) (.slice none 0 0) (.int .i64 0) (.int .i64 0) 38
  rwa [show (w.alloc (.cells #[.int .i64 st, .int .i64 ev, .int .i64 ah] 100)).heap.size = w.heap.size + 1 from by simp] at this

set_option maxHeartbeats 1600000 in
theorem steps1_any {w : World} {sp : Nat} {st ev ah T : Nat} (hx : Cur3 w sp (.int .i64 st) (.int .i64 ev) (.int .i64 ah)) (s0 : st ≤ 1073741824) (e1 : 1 ≤ ev) (e2 : ev ≤ 120) (a0 : ah ≤ 1048576) (hT : T ≤ 1000) :
    ClosG1 185 #[.pointer (some ⟨sp, 0, none⟩)] T (stairF st ev ah) w := by
  rintro ti t v w' rfl ht1 ht hv' hbw
  show Calls Try.prog 185 #[.int .i64 t, .pointer (some ⟨sp, 0, none⟩)] w' (Drew (.int .i64 v) w')
  obtain ⟨c0, c1, c2, _, _, _⟩ := hx.below hbw
  have hk : (t + ah + ev - 1) / ev * st = stairN st ev ah t := (stair_iff (by omega)).symm
  obtain ⟨A, hA⟩ : ∃ A : Nat, t + ah + ev - 1 = A := ⟨_, rfl⟩
  have eA : (t : Int) + (ah : Int) + (ev : Int) - 1 = (A : Int) := by omega
  rw [hA] at hk
  obtain ⟨q, hq⟩ : ∃ q : Nat, A / ev = q := ⟨_, rfl⟩
  have eq1 : (A : Int).tdiv (ev : Int) = (q : Int) := by rw [← hq]; exact (Int.ofNat_tdiv A ev).symm
  have hqb : q ≤ A := by rw [← hq]; exact Nat.div_le_self _ _
  rw [hq] at hk
  obtain ⟨Z, hZ⟩ : ∃ Z : Nat, q * st = Z := ⟨_, rfl⟩
  have eZ : (q : Int) * (st : Int) = (Z : Int) := by rw [← hZ]; exact (Int.natCast_mul q st).symm
  have hZb : Z ≤ 1049800 * 1073741824 := by rw [← hZ]; exact Nat.mul_le_mul (by omega) s0
  rw [hZ] at hk
  have n0 : ¬ (ev : Int) = 0 := by omega
  have n1 : ¬ ev = 0 := by omega
  have EV := Lib.hid (show (Z : Int) = v by rw [← hv']; show _ = ((stairN st ev ah t : Nat) : Int); rw [hk])
  have HA := Lib.hid hA
  clear hk hq hZ hv' hx hbw hA
  go_enter Try.func185, Try.ntmps185
  go_wp2_with fail
  go_quiet (fail)
  go_wp2_with fail
  rw [EV.out]
  go_ret
  exact ⟨rfl, _, rfl⟩

/-! ## Steps, whatever it is given -/

set_option maxHeartbeats 3200000 in
theorem steps_ce {st ev ah : Int} {zs : List Int} {p inc c : Int} (h : StepIs st ev ah zs p inc c) (w : World) :
    Calls Try.prog 84 #[stairV st ev ah] w (GivesCE zs p inc c w) := by
  have hmf : ∀ (fn : Fn) (first cap : Array Value) (w : World), (Instr.makeFunc fn first cap).run Try.prog w = .ok (.func fn first cap) w := fun _ _ _ _ => rfl
  obtain ⟨W, hW⟩ : ∃ W, (w.alloc (.cells #[.int .i64 st, .int .i64 ev, .int .i64 ah] 100)).alloc (.cells #[.slice none 0 0, .int .i64 0, .int .i64 0] 38) = W := ⟨_, rfl⟩
  obtain ⟨hX, hR, hB⟩ := stair_box w st ev ah hW
  have HX := Lib.hid hX
  have HR := Lib.hid hR
  have HB := Lib.hid hB
  have HW := Lib.hid hW
  clear hX hR hB hW
  rcases h with ⟨h1, h2⟩ | ⟨h1, rfl, rfl, rfl, rfl⟩
  · rw [okS_iff] at h1
    obtain ⟨m1, m2, m3, m4, m5, m6⟩ := h1
    obtain ⟨s, rfl⟩ := Int.eq_ofNat_of_zero_le m1
    obtain ⟨v, rfl⟩ := Int.eq_ofNat_of_zero_le (show 0 ≤ ev by omega)
    obtain ⟨x, rfl⟩ := Int.eq_ofNat_of_zero_le m5
    rw [Int.toNat_natCast, Int.toNat_natCast, Int.toNat_natCast] at h2
    have T1 := Lib.hid (show (decide ((s : Int) < 0) || decide ((1073741824 : Int) < (s : Int))) = false by rw [decide_eq_false (by omega), decide_eq_false (by omega)]; rfl)
    have T2 := Lib.hid (show (decide ((v : Int) < 1) || decide ((120 : Int) < (v : Int))) = false by rw [decide_eq_false (by omega), decide_eq_false (by omega)]; rfl)
    have T3 := Lib.hid (show (decide ((x : Int) < 0) || decide ((1048576 : Int) < (x : Int))) = false by rw [decide_eq_false (by omega), decide_eq_false (by omega)]; rfl)
    have HM := Lib.hid (show s ≤ 1073741824 ∧ (1 ≤ v ∧ v ≤ 120) ∧ x ≤ 1048576 by omega)
    have H2 := Lib.hid h2
    clear m1 m2 m3 m4 m5 m6 h2
    have HCL := Lib.hid (steps1_any (T := 1 + 2 * v) HX.out HM.out.1 HM.out.2.1.1 HM.out.2.1.2 HM.out.2.2 (by have := HM.out; omega))
    have HE := Lib.hid (show ∀ (args : Array Value) (w : World), (callFunc 185 args).run Try.prog w = .ok (.enter 185 args) w from enters_of Try.func185 (by kernel_rfl) rfl)
    go_enter Try.func84, Try.ntmps84
    go_upto_region 1 with fail
    rw [HW.out]
    obtain ⟨c0, c1, c2, c3, c4, c5⟩ := HX.out
    go_wp2_with fail
    refine (outside_any s 0 1073741824 _).mono ?_
    rintro e u1 ⟨rfl, rfl⟩
    rw [T1.out]
    go_wp2_with fail
    refine (outside_any v 1 120 _).mono ?_
    rintro e u2 ⟨rfl, rfl⟩
    rw [T2.out]
    go_wp2_with fail
    refine (outside_any x 0 1048576 _).mono ?_
    rintro e u3 ⟨rfl, rfl⟩
    rw [T3.out]
    go_wp2_with fail
    refine (fromZero_any1 185 #[.pointer (some ⟨w.heap.size, 0, none⟩)] (stairF s v x) (stairF s v x) 1 (by omega) 1 v (fun t _ => ?_) (by omega) s HM.out.2.1.1 HM.out.2.1.2 (by omega) (fun t ht => ?_) (stair_per HM.out.2.1.1) _ HE.out HCL.out).mono ?_
    · by_cases h0 : t = 0
      · subst h0; rfl
      · rw [if_neg h0]
    · have hm := HM.out
      have := stair_val hm.2.1.1 hm.1 hm.2.2 (st := s) (ah := x) (t := t) (by omega); omega
    rintro e u4 hg
    obtain ⟨a, n, cap, rfl, hb, hr, hx⟩ := H2.out.ce (hg.toE (stair_tame HM.out.2.1.1 HM.out.1 HM.out.2.2))
    have HQ := Lib.hid (GivesCE.post (b := w.heap.size + 1) (p := p) (inc := inc) (c := c) HB.out (Nat.le_succ _) HR.out.lt hb hr hx)
    obtain ⟨e0, e1, e2, e3, e4, e5⟩ := HR.out.below hb
    clear hb hr hx hg
    go_wp2_with fail
    exact bodyPost_ret (v := .tuple #[curV a n cap p inc, .int .i64 c]) (by simp [results, Try.results84, go_sem, e0, e1, e2]) rfl HQ.out
  · by_cases k1 : 0 ≤ st ∧ st ≤ 1073741824
    · have T1 := Lib.hid (show (decide (st < 0) || decide (1073741824 < st)) = false by rw [decide_eq_false (by omega), decide_eq_false (by omega)]; rfl)
      by_cases k2 : 1 ≤ ev ∧ ev ≤ 120
      · have T2 := Lib.hid (show (decide (ev < 1) || decide (120 < ev)) = false by rw [decide_eq_false (by omega), decide_eq_false (by omega)]; rfl)
        have T3 := Lib.hid (show (decide (ah < 0) || decide (1048576 < ah)) = true by
          by_cases k3 : ah < 0
          · rw [decide_eq_true k3]; rfl
          · by_cases k4 : 1048576 < ah
            · rw [decide_eq_true k4]; simp
            · exact absurd ((okS_iff st ev ah).2 ⟨k1.1, k1.2, k2.1, k2.2, by omega, by omega⟩) (by rw [h1]; decide))
        clear k1 k2 h1
        go_enter Try.func84, Try.ntmps84
        go_upto_region 1 with fail
        rw [HW.out]
        obtain ⟨c0, c1, c2, c3, c4, c5⟩ := HX.out
        go_wp2_with fail
        refine (outside_any st 0 1073741824 _).mono ?_
        rintro e u1 ⟨rfl, rfl⟩
        rw [T1.out]
        go_wp2_with fail
        refine (outside_any ev 1 120 _).mono ?_
        rintro e u2 ⟨rfl, rfl⟩
        rw [T2.out]
        go_wp2_with fail
        refine (outside_any ah 0 1048576 _).mono ?_
        rintro e u3 ⟨rfl, rfl⟩
        rw [T3.out]
        obtain ⟨e0, e1, e2, e3, e4, e5⟩ := HR.out
        go_wp2_with fail
        exact bodyPost_ret (v := .tuple #[curV none 0 0 0 0, .int .i64 2]) (by simp [results, Try.results84, go_sem, e0, e1, e2]) rfl (GivesCE.postBad (b := w.heap.size + 1) HB.out (Nat.le_succ _) 2)
      · have T2 := Lib.hid (show (decide (ev < 1) || decide (120 < ev)) = true by
          by_cases k3 : ev < 1
          · rw [decide_eq_true k3]; rfl
          · rw [decide_eq_true (show 120 < ev by omega)]; simp)
        clear k1 k2 h1
        go_enter Try.func84, Try.ntmps84
        go_upto_region 1 with fail
        rw [HW.out]
        obtain ⟨c0, c1, c2, c3, c4, c5⟩ := HX.out
        go_wp2_with fail
        refine (outside_any st 0 1073741824 _).mono ?_
        rintro e u1 ⟨rfl, rfl⟩
        rw [T1.out]
        go_wp2_with fail
        refine (outside_any ev 1 120 _).mono ?_
        rintro e u2 ⟨rfl, rfl⟩
        rw [T2.out]
        obtain ⟨e0, e1, e2, e3, e4, e5⟩ := HR.out
        go_wp2_with fail
        exact bodyPost_ret (v := .tuple #[curV none 0 0 0 0, .int .i64 2]) (by simp [results, Try.results84, go_sem, e0, e1, e2]) rfl (GivesCE.postBad (b := w.heap.size + 1) HB.out (Nat.le_succ _) 2)
    · have T1 := Lib.hid (show (decide (st < 0) || decide (1073741824 < st)) = true by
        by_cases k3 : st < 0
        · rw [decide_eq_true k3]; rfl
        · rw [decide_eq_true (show 1073741824 < st by omega)]; simp)
      clear k1 h1
      go_enter Try.func84, Try.ntmps84
      go_upto_region 1 with fail
      rw [HW.out]
      obtain ⟨c0, c1, c2, c3, c4, c5⟩ := HX.out
      go_wp2_with fail
      refine (outside_any st 0 1073741824 _).mono ?_
      rintro e u1 ⟨rfl, rfl⟩
      rw [T1.out]
      obtain ⟨e0, e1, e2, e3, e4, e5⟩ := HR.out
      go_wp2_with fail
      exact bodyPost_ret (v := .tuple #[curV none 0 0 0 0, .int .i64 2]) (by simp [results, Try.results84, go_sem, e0, e1, e2]) rfl (GivesCE.postBad (b := w.heap.size + 1) HB.out (Nat.le_succ _) 2)

end Go.Proofs.Ytjipmkgnndldpaa
