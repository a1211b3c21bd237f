/- Contracts of package bucket: outside, oversized, unfit, faulty, the closures. By the verifier's side. -/
import Derived.Test.YtombgfpheiopgaaEBkMBkXBkY
import Derived.Test.YtombgfpheiopgaaEBkF
import Derived.Test.YtombgfpheiopgaaECE
namespace Go.Proofs.Ytombgfpheiopgaa
open Go.RowKit
set_option linter.unusedSimpArgs false
set_option linter.unusedVariables false

/-- Valid, and not negative. -/
def okB (n d : Int) : Bool := okF n d && decide (0 ≤ n)
theorem okB_iff (n d : Int) : okB n d = true ↔ okF n d = true ∧ 0 ≤ n := by unfold okB; simp
/-- The terms as numbers that are not negative. -/
theorem okB_nat {n d : Int} (h : okB n d = true) : ∃ a b : Nat, n = a ∧ d = b ∧ a ≤ 1073741824 ∧ 1 ≤ b ∧ b ≤ 1073741824 := by
  obtain ⟨h1, h2⟩ := (okB_iff n d).1 h
  rw [okF_iff] at h1
  exact ⟨n.toNat, d.toNat, by omega, by omega, by omega, by omega, by omega⟩

abbrev bucketV (bn bd rn rd : Int) : Value := .agg #[.int .i64 bn, .int .i64 bd, .int .i64 rn, .int .i64 rd]
abbrev stairV (st ev ah : Int) : Value := .agg #[.int .i64 st, .int .i64 ev, .int .i64 ah]

/-- A bucket in a block. -/
structure Bk4 (w : World) (p : Nat) (bn bd rn rd : Int) : Prop where
  c0 : w.cell? ⟨p, 0, none⟩ = some (.int .i64 bn)
  c1 : w.cell? ⟨p, 1, none⟩ = some (.int .i64 bd)
  c2 : w.cell? ⟨p, 2, none⟩ = some (.int .i64 rn)
  c3 : w.cell? ⟨p, 3, none⟩ = some (.int .i64 rd)
theorem Bk4.lt {w : World} {p : Nat} {bn bd rn rd : Int} (h : Bk4 w p bn bd rn rd) : p < w.heap.size := lt_of_cell h.c0
theorem Bk4.below {w w' : World} {p : Nat} {bn bd rn rd : Int} (h : Bk4 w p bn bd rn rd) (hb : Below w.heap.size w w') : Bk4 w' p bn bd rn rd :=
  ⟨(hb.cell (p := ⟨p, 0, none⟩) h.lt).trans h.c0, (hb.cell (p := ⟨p, 1, none⟩) h.lt).trans h.c1, (hb.cell (p := ⟨p, 2, none⟩) h.lt).trans h.c2, (hb.cell (p := ⟨p, 3, none⟩) h.lt).trans h.c3⟩
theorem Bk4.new (w : World) (bn bd rn rd : Int) (t : TypeId) : Bk4 (w.alloc (.cells #[.int .i64 bn, .int .i64 bd, .int .i64 rn, .int .i64 rd] t)) w.heap.size bn bd rn rd :=
  ⟨by go_simp, by go_simp, by go_simp, by go_simp⟩
theorem Bk4.alloc {w : World} {p : Nat} {bn bd rn rd : Int} (h : Bk4 w p bn bd rn rd) (o : Obj) : Bk4 (w.alloc o) p bn bd rn rd := h.below ((Below.refl _ _).alloc (Nat.le_refl _) o)

set_option maxHeartbeats 800000 in
theorem outside_any (n lo hi : Int) (w : World) : Calls Try.prog 170 #[.int .i64 n, .int .i64 lo, .int .i64 hi] w fun e w' => e = .returned (.bool (decide (n < lo) || decide (hi < n))) ∧ w = w' := by
  by_cases h1 : n < lo
  · rw [show (decide (n < lo) || decide (hi < n)) = true by simp [h1]]
    go_enter Try.func170, Try.ntmps170
    go_wp2_with fail
    go_ret
    exact ⟨rfl, rfl⟩
  · by_cases h2 : hi < n
    · rw [show (decide (n < lo) || decide (hi < n)) = true by simp [h2]]
      go_enter Try.func170, Try.ntmps170
      go_wp2_with fail
      go_ret
      exact ⟨rfl, rfl⟩
    · rw [show (decide (n < lo) || decide (hi < n)) = false by simp [h1, h2]]
      go_enter Try.func170, Try.ntmps170
      go_wp2_with fail
      go_ret
      exact ⟨rfl, rfl⟩

/-- A size that is out of its range. -/
def overB (n : Int) : Bool := decide (n < 0) || decide (1500 < n)
set_option maxHeartbeats 400000 in
theorem oversized_any (n : Int) (w : World) : Calls Try.prog 175 #[.int .i64 n] w fun e w' => e = .returned (.bool (overB n)) ∧ w = w' := by
  unfold overB
  generalize hb : (decide (n < 0) || decide (1500 < n)) = b
  have HB := Lib.hid hb
  clear hb
  go_enter Try.func175, Try.ntmps175
  go_wp2_with fail
  refine (outside_any n 0 1500 _).mono ?_
  rintro e w1 ⟨rfl, rfl⟩
  rw [HB.out]
  go_wp2_with fail
  go_ret
  exact ⟨rfl, rfl⟩

set_option maxHeartbeats 800000 in
theorem unfit_any (n d : Int) (c : Bool) (hc : okB n d = c) (w : World) : Calls Try.prog 235 #[.agg #[.int .i64 n, .int .i64 d]] w (Says (.bool (!c)) w) := by
  cases hv : okF n d with
  | false =>
    obtain rfl : c = false := by rw [← hc]; unfold okB; rw [hv]; rfl
    have HV := Lib.hid hv
    clear hv hc
    go_enter Try.func235, Try.ntmps235
    go_wp2_with fail
    refine (valid_all n d _ HV.out _).mono ?_
    rintro e w1 ⟨rfl, hb⟩
    have HBB := Lib.hid (fr_one1 hb)
    clear hb
    go_wp2_with fail
    go_ret
    exact ⟨rfl, HBB.out⟩
  | true =>
    by_cases h0 : n < 0
    · obtain rfl : c = false := by rw [← hc]; unfold okB; rw [hv, decide_eq_false (by omega)]; rfl
      have HV := Lib.hid hv
      clear hv hc
      go_enter Try.func235, Try.ntmps235
      go_wp2_with fail
      refine (valid_all n d _ HV.out _).mono ?_
      rintro e w1 ⟨rfl, hb⟩
      have HBB := Lib.hid (fr_one1 hb)
      obtain ⟨hc1, hf1⟩ := bcell hb
      clear hb
      go_wp2_with fail
      go_ret
      exact ⟨rfl, HBB.out⟩
    · obtain rfl : c = true := by rw [← hc]; unfold okB; rw [hv, decide_eq_true (by omega)]; rfl
      have t0 : decide (n < 0) = false := decide_eq_false h0
      have HV := Lib.hid hv
      clear hv hc
      go_enter Try.func235, Try.ntmps235
      go_wp2_with fail
      refine (valid_all n d _ HV.out _).mono ?_
      rintro e w1 ⟨rfl, hb⟩
      have HBB := Lib.hid (fr_one1 hb)
      obtain ⟨hc1, hf1⟩ := bcell hb
      clear hb
      go_wp2_with fail
      go_ret
      exact ⟨rfl, HBB.out⟩

set_option maxHeartbeats 800000 in
theorem faulty_any (bn bd rn rd : Int) (c : Bool) (hc : (okB bn bd && okB rn rd) = c) (w : World) : Calls Try.prog 167 #[bucketV bn bd rn rd] w (Says (.bool (!c)) w) := by
  have HX := Lib.hid (Bk4.new w bn bd rn rd 74)
  cases h1 : okB bn bd with
  | false =>
    obtain rfl : c = false := by rw [← hc, h1]; rfl
    have HV := Lib.hid h1
    clear h1 hc
    go_enter Try.func167, Try.ntmps167
    go_wp2_with fail
    refine (unfit_any bn bd _ HV.out _).mono ?_
    rintro e w1 ⟨rfl, hb⟩
    have HBB := Lib.hid (fr_one1 hb)
    clear hb
    go_wp2_with fail
    go_ret
    exact ⟨rfl, HBB.out⟩
  | true =>
    obtain rfl : c = okB rn rd := by rw [← hc, h1]; rfl
    cases h2 : okB rn rd with
    | false =>
      have HV := Lib.hid (And.intro h1 h2)
      clear h1 h2 hc
      go_enter Try.func167, Try.ntmps167
      go_wp2_with fail
      refine (unfit_any bn bd _ HV.out.1 _).mono ?_
      rintro e w1 ⟨rfl, hb⟩
      obtain ⟨c0, c1, c2, c3⟩ := HX.out.below hb
      have HBB := Lib.hid (fr_one1 hb)
      clear hb
      go_wp2_with fail
      clear c0 c1 c2 c3
      refine (unfit_any rn rd _ HV.out.2 _).mono ?_
      rintro e w2 ⟨rfl, hb⟩
      have HB2 := Lib.hid (HBB.out.trans (hb.mono HBB.out.size))
      clear hb
      go_wp2_with fail
      go_ret
      exact ⟨rfl, HB2.out⟩
    | true =>
      have HV := Lib.hid (And.intro h1 h2)
      clear h1 h2 hc
      go_enter Try.func167, Try.ntmps167
      go_wp2_with fail
      refine (unfit_any bn bd _ HV.out.1 _).mono ?_
      rintro e w1 ⟨rfl, hb⟩
      obtain ⟨c0, c1, c2, c3⟩ := HX.out.below hb
      have HBB := Lib.hid (fr_one1 hb)
      clear hb
      go_wp2_with fail
      clear c0 c1 c2 c3
      refine (unfit_any rn rd _ HV.out.2 _).mono ?_
      rintro e w2 ⟨rfl, hb⟩
      have HB2 := Lib.hid (HBB.out.trans (hb.mono HBB.out.size))
      clear hb
      go_wp2_with fail
      go_ret
      exact ⟨rfl, HB2.out⟩

/-! ## The closures -/

set_option maxHeartbeats 1600000 in
theorem passed1_any {w : World} {bp rp : Nat} {bn bd rn rd T : Nat} (hx : Box w bp bn bd) (hy : Box w rp rn rd) (b0 : bn ≤ 1073741824) (b1 : 1 ≤ bd) (b2 : bd ≤ 1073741824) (r0 : rn ≤ 1073741824) (r1 : 1 ≤ rd) (r2 : rd ≤ 120) (hT : T ≤ 1000) :
    ClosG1 236 #[.pointer (some ⟨rp, 0, none⟩), .pointer (some ⟨bp, 0, none⟩)] T (tokF bn bd rn rd) w := by
  rintro ti t v w' rfl ht1 ht hv' hbw
  show Calls Try.prog 236 #[.int .i64 t, .pointer (some ⟨rp, 0, none⟩), .pointer (some ⟨bp, 0, none⟩)] w' (Drew (.int .i64 v) w')
  obtain ⟨c0, c1, _, _⟩ := hx.below hbw
  obtain ⟨d0, d1, _, _⟩ := hy.below hbw
  obtain ⟨j, rfl⟩ : ∃ j, t = j + 1 := ⟨t - 1, by omega⟩
  have hk := tok_prog (bn := bn) (bd := bd) (rn := rn) (rd := rd) (k := j + 1) b1 r1 (by omega)
  rw [show j + 1 - 1 = j by omega] at hk
  have ej : ((j + 1 : Nat) : Int) - 1 = (j : Int) := by omega
  obtain ⟨G, hG⟩ : ∃ G : Nat, rn * j = G := ⟨_, rfl⟩
  have hGb : G ≤ 1073741824 * 1000 := by rw [← hG]; exact Nat.mul_le_mul r0 (by omega)
  have eG : (rn : Int) * (j : Int) = (G : Int) := by rw [← hG]; exact (Int.natCast_mul rn j).symm
  rw [hG] at hk
  obtain ⟨q, hq⟩ : ∃ q : Nat, G / rd = q := ⟨_, rfl⟩
  obtain ⟨r, hr⟩ : ∃ r : Nat, G % rd = r := ⟨_, rfl⟩
  have hrb : r < rd := by rw [← hr]; exact Nat.mod_lt _ (by omega)
  have hqb : q ≤ G := by rw [← hq]; exact Nat.div_le_self _ _
  rw [hq, hr] at hk
  have eq1 : (G : Int).tdiv (rd : Int) = (q : Int) := by rw [← hq]; exact (Int.ofNat_tdiv G rd).symm
  have er1 : (G : Int).tmod (rd : Int) = (r : Int) := by rw [← hr]; exact (Int.ofNat_tmod G rd).symm
  have n0 : ¬ (rd : Int) = 0 := by omega
  have n1 : ¬ rd = 0 := by omega
  obtain ⟨A, hA⟩ : ∃ A : Nat, bn * rd = A := ⟨_, rfl⟩
  obtain ⟨B, hB⟩ : ∃ B : Nat, r * bd = B := ⟨_, rfl⟩
  obtain ⟨C, hC⟩ : ∃ C : Nat, bd * rd = C := ⟨_, rfl⟩
  have eA : (bn : Int) * (rd : Int) = (A : Int) := by rw [← hA]; exact (Int.natCast_mul bn rd).symm
  have eB : (r : Int) * (bd : Int) = (B : Int) := by rw [← hB]; exact (Int.natCast_mul r bd).symm
  have eC : (bd : Int) * (rd : Int) = (C : Int) := by rw [← hC]; exact (Int.natCast_mul bd rd).symm
  have hAb : A ≤ 1073741824 * 120 := by rw [← hA]; exact Nat.mul_le_mul b0 r2
  have hBb : B ≤ 120 * 1073741824 := by rw [← hB]; exact Nat.mul_le_mul (by omega) b2
  have hCb : C ≤ 1073741824 * 120 := by rw [← hC]; exact Nat.mul_le_mul b2 r2
  have hC1 : 1 ≤ C := by rw [← hC]; exact Nat.mul_pos b1 r1
  rw [hA, hB, hC] at hk
  obtain ⟨Z, hZ⟩ : ∃ Z : Nat, (A + B) / C = Z := ⟨_, rfl⟩
  have eZ : ((A : Int) + (B : Int)).tdiv (C : Int) = (Z : Int) := by rw [← hZ]; exact (Int.ofNat_tdiv (A + B) C).symm
  have hZb : Z ≤ A + B := by rw [← hZ]; exact Nat.div_le_self _ _
  rw [hZ] at hk
  have ev : (q : Int) + (Z : Int) = v := by rw [← hv']; show _ = ((tokN bn bd rn rd (j + 1) : Nat) : Int); rw [← hk]; omega
  have n2 : ¬ (C : Int) = 0 := by omega
  have n3 : ¬ C = 0 := by omega
  have EG := Lib.hid eG
  have EV := Lib.hid ev
  clear hk hG hq hr hA hB hC hZ hv' hx hy hbw ev
  go_enter Try.func236, Try.ntmps236
  go_wp2_with fail
  go_quiet (fail)
  go_wp2_with fail
  rw [EV.out]
  go_ret
  exact ⟨rfl, _, rfl⟩

end Go.Proofs.Ytombgfpheiopgaa
