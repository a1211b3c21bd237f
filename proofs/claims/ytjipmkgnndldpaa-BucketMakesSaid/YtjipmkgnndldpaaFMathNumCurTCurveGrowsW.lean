/- Plain arithmetic of fractions: no program. By the verifier's side. -/
import Derived.WalkKit
import Derived.Test.YtjipmkgnndldpaaFBaseApartPickKeepS
import Derived.LoopTactic
import Derived.BigRegion
import Derived.Laws.ResultCell
import Derived.Test.YtjipmkgnndldpaaFCurFCurG
import Derived.Test.YtjipmkgnndldpaaFCurSCurW
import Derived.Test.YtjipmkgnndldpaaFKeepC
namespace Go.Proofs.Ytjipmkgnndldpaa

/-- The limit of a term. -/
def lim : Nat := 1073741824

/-- num / den in lowest terms, and the error's number. -/
def newF (num den : Int) : Int × Int × Int :=
  if den = 0 then (0, 0, 2) else
  if lim < num.natAbs / Nat.gcd num.natAbs den.natAbs ∨ lim < den.natAbs / Nat.gcd num.natAbs den.natAbs then (0, 0, 3) else
  (if decide (num < 0) = decide (den < 0) then ((num.natAbs / Nat.gcd num.natAbs den.natAbs : Nat) : Int) else -((num.natAbs / Nat.gcd num.natAbs den.natAbs : Nat) : Int), ((den.natAbs / Nat.gcd num.natAbs den.natAbs : Nat) : Int), 0)

/-- Is it a fraction in lowest terms, within the limits? -/
def okF (n d : Int) : Bool := decide (1 ≤ d ∧ d ≤ 1073741824 ∧ -1073741824 ≤ n ∧ n ≤ 1073741824 ∧ Nat.gcd n.natAbs d.natAbs = 1)

theorem newF_mulk (n k : Int) (hk : 1 ≤ k) (h0 : 0 ≤ n) (h1 : n ≤ 1073741824) : newF (n * k) k = (n, 1, 0) := by
  obtain ⟨a, rfl⟩ := Int.eq_ofNat_of_zero_le h0
  obtain ⟨b, rfl⟩ := Int.eq_ofNat_of_zero_le (show 0 ≤ k by omega)
  have e1 : ((a : Int) * (b : Int)).natAbs = a * b := by rw [← Int.natCast_mul]; rfl
  have hb : 0 < b := by omega
  have e2 : Nat.gcd (a * b) b = b := Nat.gcd_mul_left_left a b
  have p1 : ¬ ((a : Int) * (b : Int) < 0) := by have := Int.mul_nonneg h0 (show (0 : Int) ≤ b by omega); omega
  have p2 : ¬ ((b : Int) < 0) := by omega
  have e3 : ((b : Int)).natAbs = b := rfl
  unfold newF lim
  simp only [e1, e2, e3, Nat.mul_div_cancel _ hb, Nat.div_self hb]
  rw [if_neg (by omega), if_neg (by omega), if_pos (by simp [p1, p2])]
  rfl

end Go.Proofs.Ytjipmkgnndldpaa

namespace Go.Proofs.Ytjipmkgnndldpaa
open Go.RowKit

set_option maxHeartbeats 400000 in
theorem magnitude_any (n : Int) (hn : In64 n) (w : World) :
    Calls Try.prog 268 #[.int .i64 n] w fun e w' => e = .returned (.int .u64 (n.natAbs : Int)) ∧ w = w' := by
  obtain ⟨h1, h2⟩ := hn
  by_cases h : n < 0
  · go_enter Try.func268, Try.ntmps268
    go_wp2
    go_ret
    refine ⟨ret_int ?_, rfl⟩
    simp only [IntKind.wrap_u64]
    omega
  · go_enter Try.func268, Try.ntmps268
    go_wp2
    go_ret
    exact ⟨ret_int (by omega), rfl⟩

theorem magnitude_at (n : Int) (k : Nat) (hk : n.natAbs = k) (hn : In64 n) (w : World) :
    Calls Try.prog 268 #[.int .i64 n] w fun e w' => e = .returned (.int .u64 (k : Int)) ∧ w = w' := by
  subst hk; exact magnitude_any n hn w

theorem gcd_step (x y : Nat) : y.gcd (x % y) = x.gcd y := by rw [Nat.gcd_comm, ← Nat.gcd_rec, Nat.gcd_comm]

set_option maxHeartbeats 400000 in
theorem divisor_any (a b : Nat) (ha : a < 18446744073709551616) (hb : b < 18446744073709551616) (w : World) :
    Calls Try.prog 267 #[.int .u64 a, .int .u64 b] w (Drew (.int .u64 (Nat.gcd a b : Nat)) w) := by
  go_enter Try.func267, Try.ntmps267
  go_wp2
  go_loopw [0, 1] (fun va vb wr => ∃ x y : Nat, va = .int .u64 x ∧ vb = .int .u64 y ∧ x < 18446744073709551616 ∧ y < 18446744073709551616 ∧ Hid (Nat.gcd x y = Nat.gcd a b) ∧ ∃ m, wr = w.drewN m) (fun _ vb _ => (intOf vb).toNat)
  case atStart => exact ⟨a, b, rfl, rfl, ha, hb, rfl, 0, rfl⟩
  case round =>
    obtain ⟨x, y, rfl, rfl, hx, hy, hg, m, rfl⟩ := hrel
    by_cases h0 : y = 0
    · subst h0
      go_wp2
      go_ret
      exact ⟨ret_int (by have := hg.out; simp at this; omega), m, rfl⟩
    · have hy0 : 0 < y := by omega
      have hlt := Nat.mod_lt x hy0
      have hw1 : IntKind.u64.wrap ((x % y : Nat) : Int) = ((x % y : Nat) : Int) := by rw [IntKind.wrap_u64]; omega
      go_wp2
      go_quiet (fail)
      go_wp2
      go_roundw
      case rel =>
        refine ⟨y, x % y, rfl, ?_, hy, by omega, ?_, m + _, World.drewN_drewN _ _ _⟩
        · rw [Int.natCast_emod]
        · exact (gcd_step x y).trans hg.out
      case measure => simp [intOf]; omega

theorem divisor_at (a b g : Nat) (hg : Nat.gcd a b = g) (ha : a < 18446744073709551616) (hb : b < 18446744073709551616) (w : World) :
    Calls Try.prog 267 #[.int .u64 a, .int .u64 b] w (Drew (.int .u64 (g : Int)) w) := by
  subst hg; exact divisor_any a b ha hb w

/-- A fraction and an error's number are handed back; nothing that was there has turned. -/
def Gave (r : Int × Int × Int) (w : World) (e : Ending) (w' : World) : Prop :=
  e = .returned (.tuple #[.agg #[.int .i64 r.1, .int .i64 r.2.1], .int .i64 r.2.2]) ∧ Below w.heap.size w w'

theorem newF_zero (num : Int) : newF num 0 = (0, 0, 2) := by simp [newF]

set_option maxHeartbeats 400000 in
theorem new_zero (num : Int) (w : World) : Calls Try.prog 198 #[.int .i64 num, .int .i64 0] w (Gave (newF num 0) w) := by
  rw [newF_zero]
  go_enter Try.func198, Try.ntmps198
  go_wp2
  refine bodyPost_ret (v := .tuple #[.agg #[.int .i64 0, .int .i64 0], .int .i64 2]) (by simp [results, Try.results198, go_sem]) rfl ?_
  exact ⟨rfl, (Below.refl _ _).alloc (Nat.le_refl _) _⟩

/-- The two ways by the terms' sizes, and the two by the signs. -/
theorem newF_big {num den : Int} {n d g : Nat} (h0 : ¬ den = 0) (hn : num.natAbs = n) (hd : den.natAbs = d) (hg : Nat.gcd n d = g) (h : 1073741824 < n / g ∨ 1073741824 < d / g) : newF num den = (0, 0, 3) := by
  subst hn hd hg
  unfold newF lim
  rw [if_neg h0, if_pos h]
theorem newF_fit {num den : Int} {n d g : Nat} (h0 : ¬ den = 0) (hn : num.natAbs = n) (hd : den.natAbs = d) (hg : Nat.gcd n d = g) (h1 : n / g ≤ 1073741824) (h2 : d / g ≤ 1073741824) :
    newF num den = (if decide (num < 0) = decide (den < 0) then ((n / g : Nat) : Int) else -((n / g : Nat) : Int), ((d / g : Nat) : Int), 0) := by
  subst hn hd hg
  unfold newF lim
  rw [if_neg h0, if_neg (by omega)]

set_option maxHeartbeats 1600000 in
theorem new_pos (num den : Int) (hn : In64 num) (hd : In64 den) (h0 : ¬ den = 0) (w : World) : Calls Try.prog 198 #[.int .i64 num, .int .i64 den] w (Gave (newF num den) w) := by
  generalize hr : newF num den = r
  have HR := Lib.hid hr
  clear hr
  have hd0 : (den == 0) = false := by simpa using h0
  obtain ⟨n, hn1⟩ : ∃ n, num.natAbs = n := ⟨_, rfl⟩
  obtain ⟨d, hd1⟩ : ∃ d, den.natAbs = d := ⟨_, rfl⟩
  obtain ⟨g, hg⟩ : ∃ g, Nat.gcd n d = g := ⟨_, rfl⟩
  obtain ⟨q1, hq1⟩ : ∃ q, n / g = q := ⟨_, rfl⟩
  obtain ⟨q2, hq2⟩ : ∃ q, d / g = q := ⟨_, rfl⟩
  have HN := Lib.hid hn1
  have HD := Lib.hid hd1
  have HG := Lib.hid hg
  have b1 : n < 18446744073709551616 := by unfold In64 at hn; omega
  have b2 : d < 18446744073709551616 := by unfold In64 at hd; omega
  have b3 : 0 < d := by omega
  have b4 : 1 ≤ (g : Int) := by have := Nat.gcd_pos_of_pos_right n b3; omega
  have c1 : n / g ≤ n := Nat.div_le_self _ _
  have c2 : d / g ≤ d := Nat.div_le_self _ _
  have hw1 : IntKind.u64.wrap ((n : Int) / (g : Int)) = (q1 : Int) := by rw [IntKind.wrap_u64, ← Int.natCast_ediv, hq1]; omega
  have hw2 : IntKind.u64.wrap ((d : Int) / (g : Int)) = (q2 : Int) := by rw [IntKind.wrap_u64, ← Int.natCast_ediv, hq2]; omega
  have HQ := Lib.hid (And.intro hq1 hq2)
  clear hn1 hd1 hg hq1 hq2 c1 c2
  by_cases k1 : 1073741824 < q1
  · obtain rfl : r = (0, 0, 3) := HR.out.symm.trans (newF_big h0 HN.out HD.out HG.out (Or.inl (by rw [HQ.out.1]; exact k1)))
    clear HR
    go_enter Try.func198, Try.ntmps198
    go_wp2_with fail
    refine (magnitude_at num n HN.out hn _).mono ?_
    rintro e w1 ⟨rfl, rfl⟩
    go_wp2_with fail
    refine (magnitude_at den d HD.out hd _).mono ?_
    rintro e w1 ⟨rfl, rfl⟩
    go_wp2_with fail
    refine (divisor_at n d g HG.out b1 b2 _).mono ?_
    rintro e w2 ⟨rfl, m2, rfl⟩
    go_wp2_with fail
    go_quiet (fail)
    go_wp2_with fail
    refine bodyPost_ret (v := .tuple #[.agg #[.int .i64 0, .int .i64 0], .int .i64 3]) (by simp [results, Try.results198, go_sem]) rfl ⟨rfl, ?_⟩
    repeat (first | exact Below.refl _ _ | refine Below.drewN ?_ _ | refine Below.alloc ?_ (by simp) _ | refine Below.setCell ?_ (by simp) _)
  · by_cases k2 : 1073741824 < q2
    · obtain rfl : r = (0, 0, 3) := HR.out.symm.trans (newF_big h0 HN.out HD.out HG.out (Or.inr (by rw [HQ.out.2]; exact k2)))
      clear HR
      go_enter Try.func198, Try.ntmps198
      go_wp2_with fail
      refine (magnitude_at num n HN.out hn _).mono ?_
      rintro e w1 ⟨rfl, rfl⟩
      go_wp2_with fail
      refine (magnitude_at den d HD.out hd _).mono ?_
      rintro e w1 ⟨rfl, rfl⟩
      go_wp2_with fail
      refine (divisor_at n d g HG.out b1 b2 _).mono ?_
      rintro e w2 ⟨rfl, m2, rfl⟩
      go_wp2_with fail
      go_quiet (fail)
      go_wp2_with fail
      refine bodyPost_ret (v := .tuple #[.agg #[.int .i64 0, .int .i64 0], .int .i64 3]) (by simp [results, Try.results198, go_sem]) rfl ⟨rfl, ?_⟩
      repeat (first | exact Below.refl _ _ | refine Below.drewN ?_ _ | refine Below.alloc ?_ (by simp) _ | refine Below.setCell ?_ (by simp) _)
    · have HF := Lib.hid (newF_fit h0 HN.out HD.out HG.out (by rw [HQ.out.1]; omega) (by rw [HQ.out.2]; omega))
      have l1 : (q1 : Int) ≤ 1073741824 := by omega
      have l2 : (q2 : Int) ≤ 1073741824 := by omega
      by_cases s1 : num < 0
      · by_cases s2 : den < 0
        · obtain rfl : r = ((q1 : Int), (q2 : Int), 0) := by rw [← HR.out, HF.out, HQ.out.1, HQ.out.2, if_pos (by simp [s1, s2])]
          clear HR HF
          have t1 : decide (num < 0) = true := by simpa using s1
          have t2 : decide (den < 0) = true := by simpa using s2
          go_enter Try.func198, Try.ntmps198
          go_wp2_with fail
          refine (magnitude_at num n HN.out hn _).mono ?_
          rintro e w1 ⟨rfl, rfl⟩
          go_wp2_with fail
          refine (magnitude_at den d HD.out hd _).mono ?_
          rintro e w1 ⟨rfl, rfl⟩
          go_wp2_with fail
          refine (divisor_at n d g HG.out b1 b2 _).mono ?_
          rintro e w2 ⟨rfl, m2, rfl⟩
          go_wp2_with fail
          go_quiet (fail)
          go_wp2_with fail
          refine bodyPost_ret (v := .tuple #[.agg #[.int .i64 q1, .int .i64 q2], .int .i64 0]) (by simp [results, Try.results198, go_sem]) rfl ⟨rfl, ?_⟩
          repeat (first | exact Below.refl _ _ | refine Below.drewN ?_ _ | refine Below.alloc ?_ (by simp) _ | refine Below.setCell ?_ (by simp) _)
        · obtain rfl : r = (-(q1 : Int), (q2 : Int), 0) := by rw [← HR.out, HF.out, HQ.out.1, HQ.out.2, if_neg (by simp [s1, s2])]
          clear HR HF
          have t1 : decide (num < 0) = true := by simpa using s1
          have t2 : decide (den < 0) = false := by simpa using s2
          go_enter Try.func198, Try.ntmps198
          go_wp2_with fail
          refine (magnitude_at num n HN.out hn _).mono ?_
          rintro e w1 ⟨rfl, rfl⟩
          go_wp2_with fail
          refine (magnitude_at den d HD.out hd _).mono ?_
          rintro e w1 ⟨rfl, rfl⟩
          go_wp2_with fail
          refine (divisor_at n d g HG.out b1 b2 _).mono ?_
          rintro e w2 ⟨rfl, m2, rfl⟩
          go_wp2_with fail
          go_quiet (fail)
          go_wp2_with fail
          refine bodyPost_ret (v := .tuple #[.agg #[.int .i64 (-q1), .int .i64 q2], .int .i64 0]) (by simp [results, Try.results198, go_sem]) rfl ⟨rfl, ?_⟩
          repeat (first | exact Below.refl _ _ | refine Below.drewN ?_ _ | refine Below.alloc ?_ (by simp) _ | refine Below.setCell ?_ (by simp) _)
      · by_cases s2 : den < 0
        · obtain rfl : r = (-(q1 : Int), (q2 : Int), 0) := by rw [← HR.out, HF.out, HQ.out.1, HQ.out.2, if_neg (by simp [s1, s2])]
          clear HR HF
          have t1 : decide (num < 0) = false := by simpa using s1
          have t2 : decide (den < 0) = true := by simpa using s2
          go_enter Try.func198, Try.ntmps198
          go_wp2_with fail
          refine (magnitude_at num n HN.out hn _).mono ?_
          rintro e w1 ⟨rfl, rfl⟩
          go_wp2_with fail
          refine (magnitude_at den d HD.out hd _).mono ?_
          rintro e w1 ⟨rfl, rfl⟩
          go_wp2_with fail
          refine (divisor_at n d g HG.out b1 b2 _).mono ?_
          rintro e w2 ⟨rfl, m2, rfl⟩
          go_wp2_with fail
          go_quiet (fail)
          go_wp2_with fail
          refine bodyPost_ret (v := .tuple #[.agg #[.int .i64 (-q1), .int .i64 q2], .int .i64 0]) (by simp [results, Try.results198, go_sem]) rfl ⟨rfl, ?_⟩
          repeat (first | exact Below.refl _ _ | refine Below.drewN ?_ _ | refine Below.alloc ?_ (by simp) _ | refine Below.setCell ?_ (by simp) _)
        · obtain rfl : r = ((q1 : Int), (q2 : Int), 0) := by rw [← HR.out, HF.out, HQ.out.1, HQ.out.2, if_pos (by simp [s1, s2])]
          clear HR HF
          have t1 : decide (num < 0) = false := by simpa using s1
          have t2 : decide (den < 0) = false := by simpa using s2
          go_enter Try.func198, Try.ntmps198
          go_wp2_with fail
          refine (magnitude_at num n HN.out hn _).mono ?_
          rintro e w1 ⟨rfl, rfl⟩
          go_wp2_with fail
          refine (magnitude_at den d HD.out hd _).mono ?_
          rintro e w1 ⟨rfl, rfl⟩
          go_wp2_with fail
          refine (divisor_at n d g HG.out b1 b2 _).mono ?_
          rintro e w2 ⟨rfl, m2, rfl⟩
          go_wp2_with fail
          go_quiet (fail)
          go_wp2_with fail
          refine bodyPost_ret (v := .tuple #[.agg #[.int .i64 q1, .int .i64 q2], .int .i64 0]) (by simp [results, Try.results198, go_sem]) rfl ⟨rfl, ?_⟩
          repeat (first | exact Below.refl _ _ | refine Below.drewN ?_ _ | refine Below.alloc ?_ (by simp) _ | refine Below.setCell ?_ (by simp) _)

/-- fraction.New, whatever it is given. -/
theorem new_all (num den : Int) (hn : In64 num) (hd : In64 den) (w : World) : Calls Try.prog 198 #[.int .i64 num, .int .i64 den] w (Gave (newF num den) w) := by
  by_cases h0 : den = 0
  · subst h0; exact new_zero num w
  · exact new_pos num den hn hd h0 w

end Go.Proofs.Ytjipmkgnndldpaa

namespace Go.Proofs.Ytjipmkgnndldpaa
open Go.RowKit
set_option linter.unusedSimpArgs false

/-- Is it a valid curve whose last value is finite? -/
def finB (zs : List Int) (p inc : Int) : Bool := okC zs p inc && !decide (zs.getD (zs.length - 1) 0 = infV)

theorem finB_bad {zs : List Int} {p inc : Int} (h : okC zs p inc = false) : finB zs p inc = false := by unfold finB; rw [h]; rfl
theorem finB_inf {zs : List Int} {p inc : Int} (h : zs.getD (zs.length - 1) 0 = infV) : finB zs p inc = false := by unfold finB; rw [decide_eq_true h]; simp
theorem finB_fin {zs : List Int} {p inc : Int} (h : okC zs p inc = true) (hf : ¬ zs.getD (zs.length - 1) 0 = infV) : finB zs p inc = true := by unfold finB; rw [h, decide_eq_false hf]; rfl

set_option maxHeartbeats 800000 in
theorem finite_any (a : Option Addr) (n cap : Nat) (zs : List Int) (p inc : Int) (hp : In64 p) (hi : In64 inc) (b : Bool) (hb : finB zs p inc = b) (w : World) (h : RowZ w a n cap zs) :
    Calls Try.prog 219 #[curV a n cap p inc] w (Says (.bool b) w) := by
  have hB : Below w.heap.size w (w.alloc (.cells #[.slice a n cap, .int .i64 p, .int .i64 inc] 38)) := (Below.refl _ _).alloc (Nat.le_refl _) _
  have HBl := Lib.hid hB
  have H := Lib.hid (h.under hB)
  have HL := Lib.hid h.len
  have KF := Lib.hid (Cur3.new w (.slice a n cap) (.int .i64 p) (.int .i64 inc) 38)
  cases hok : okC zs p inc with
  | false =>
    obtain rfl : b = false := hb.symm.trans (finB_bad hok)
    have HO := Lib.hid hok
    clear h hB hb hok
    go_enter Try.func219, Try.ntmps219
    go_wp2_with fail
    refine (valid_any a n cap zs p inc hp hi false HO.out _ H.out).mono ?_
    rintro e w1 ⟨rfl, hb⟩
    go_wp2_with fail
    go_ret
    exact ⟨rfl, HBl.out.trans (hb.mono HBl.out.size)⟩
  | true =>
    obtain ⟨q, hq, g⟩ := okC_pos hok
    have hn1 : 1 ≤ n := by have := g.p1; have := g.p3; have := HL.out; omega
    have hcm := h.sm
    obtain ⟨j, hj⟩ : ∃ j, n = j + 1 := ⟨n - 1, by omega⟩
    obtain ⟨l, hl⟩ : ∃ l, zs.getD j 0 = l := ⟨_, rfl⟩
    have hbl : b = !decide (l = infV) := by rw [← hb, ← hl]; unfold finB; rw [hok, HL.out, show n - 1 = j by omega]; rfl
    have HO := Lib.hid hok
    have q1 : (n : Int) - 1 = (j : Int) := by omega
    have q2 : (j : Int) < (n : Int) := by omega
    have HJ := Lib.hid (And.intro hj hl)
    clear h hB hb hok hq g hj hl
    by_cases hf : l = infV
    · obtain rfl : b = false := by rw [hbl, decide_eq_true hf]; rfl
      have ht : (l != 4611686018427387904) = false := by simpa using hf
      clear hbl hf
      go_enter Try.func219, Try.ntmps219
      go_wp2_with fail
      refine (valid_any a n cap zs p inc hp hi true HO.out _ H.out).mono ?_
      rintro e w1 ⟨rfl, hb⟩
      obtain ⟨c0, c1, c2, f0, f1, f2⟩ := KF.out.below hb
      have HB1 := Lib.hid (HBl.out.trans (hb.mono HBl.out.size))
      obtain ⟨x, rfl, cl⟩ := (H.out.under hb).cell j (by omega)
      rw [HJ.out.2] at cl
      clear hb
      go_wp2_with fail
      go_ret
      exact ⟨rfl, HB1.out⟩
    · obtain rfl : b = true := by rw [hbl, decide_eq_false hf]; rfl
      have ht : (l != 4611686018427387904) = true := by simpa using hf
      clear hbl hf
      go_enter Try.func219, Try.ntmps219
      go_wp2_with fail
      refine (valid_any a n cap zs p inc hp hi true HO.out _ H.out).mono ?_
      rintro e w1 ⟨rfl, hb⟩
      obtain ⟨c0, c1, c2, f0, f1, f2⟩ := KF.out.below hb
      have HB1 := Lib.hid (HBl.out.trans (hb.mono HBl.out.size))
      obtain ⟨x, rfl, cl⟩ := (H.out.under hb).cell j (by omega)
      rw [HJ.out.2] at cl
      clear hb
      go_wp2_with fail
      go_ret
      exact ⟨rfl, HB1.out⟩

theorem norm_p3 {zs zs' : List Int} {p p' : Nat} {inc inc' : Int} (g : Good zs p inc) (h : NormC zs p inc zs' p' inc') : 1 ≤ p' ∧ p' ≤ 120 ∧ p' ≤ zs'.length ∧ zs'.length ≤ 400 ∧ 0 ≤ inc' ∧ inc' ≤ 1073741824 :=
  ⟨(h.good g).p1, (h.good g).p2, (h.good g).p3, (h.good g).few, (h.good g).i0, (h.good g).i1⟩

end Go.Proofs.Ytjipmkgnndldpaa

namespace Go.Proofs.Ytjipmkgnndldpaa
open Go.RowKit
set_option linter.unusedSimpArgs false

/-- Two curves in boxes F and G, and their rows. -/
structure Two (w : World) (F : Nat) (a : Option Addr) (n cap p : Nat) (inc : Int) (zs : List Int) (G : Nat) (b : Option Addr) (m cup q : Nat) (jnc : Int) (ys : List Int) : Prop where
  bx : Cur3 w F (.slice a n cap) (.int .i64 p) (.int .i64 inc)
  rx : RowZ w a n cap zs
  by' : Cur3 w G (.slice b m cup) (.int .i64 q) (.int .i64 jnc)
  ry : RowZ w b m cup ys
section
variable {w w' : World} {F : Nat} {a : Option Addr} {n cap p : Nat} {inc : Int} {zs : List Int} {G : Nat} {b : Option Addr} {m cup q : Nat} {jnc : Int} {ys : List Int}
theorem Two.under (h : Two w F a n cap p inc zs G b m cup q jnc ys) (hb : Below w.heap.size w w') : Two w' F a n cap p inc zs G b m cup q jnc ys :=
  ⟨h.bx.below hb, h.rx.under hb, h.by'.below hb, h.ry.under hb⟩

end

end Go.Proofs.Ytjipmkgnndldpaa
