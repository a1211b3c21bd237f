/- Contracts of the document's package of fractions, as package curve needs them: abs, Valid, New. By the verifier's side. | Contracts: the document's Finite, Start, Slope, Equal; Start and Equal at curves that are not valid. By the verifier's side. -/
import Derived.Test.YtjipmkgnndldpaaECurX
import Derived.RegionTactic
import Derived.WalkSpells
import Derived.Test.YtjipmkgnndldpaaERefARefP
import Derived.Test.YtjipmkgnndldpaaEBaseApartPickKeepS
namespace Go.Proofs.Ytjipmkgnndldpaa
open Go.RowKit
set_option linter.unusedSimpArgs false

theorem okF_iff (n d : Int) : okF n d = true ↔ 1 ≤ d ∧ d ≤ 1073741824 ∧ -1073741824 ≤ n ∧ n ≤ 1073741824 ∧ Nat.gcd n.natAbs d.natAbs = 1 := by
  unfold okF; simp

theorem okF_no (n d : Int) (h : ¬ (1 ≤ d ∧ d ≤ 1073741824 ∧ -1073741824 ≤ n ∧ n ≤ 1073741824)) : okF n d = false := by
  rw [Bool.eq_false_iff]; intro e; rw [okF_iff] at e; exact h ⟨e.1, e.2.1, e.2.2.1, e.2.2.2.1⟩


set_option maxHeartbeats 400000 in
theorem abs_any (n : Int) (h1 : -9223372036854775807 ≤ n) (h2 : n ≤ 9223372036854775807) (w : World) :
    Calls Try.prog 92 #[.int .i64 n] w fun e w' => e = .returned (.int .i64 (n.natAbs : Int)) ∧ w' = w := by
  by_cases h : n < 0
  · go_enter Try.func92, Try.ntmps92
    go_wp2
    all_goals (go_ret; exact ⟨ret_int (by omega), rfl⟩)
  · go_enter Try.func92, Try.ntmps92
    go_wp2
    all_goals (go_ret; exact ⟨ret_int (by omega), rfl⟩)

set_option maxHeartbeats 800000 in
theorem frvalid_any (n d : Int) (c : Bool) (hc : okF n d = c) (w : World) : Calls Try.prog 93 #[.agg #[.int .i64 n, .int .i64 d]] w (Says (.bool c) w) := by
  by_cases h1 : 1 ≤ d
  · by_cases h2 : d ≤ 1073741824
    · by_cases h3 : -1073741824 ≤ n
      · by_cases h4 : n ≤ 1073741824
        · have hk : (((Nat.gcd n.natAbs d.natAbs : Nat) : Int) == 1) = c := by
            rw [← hc, Bool.eq_iff_iff, okF_iff]
            simp only [beq_iff_eq]
            omega
          have a1 : d.natAbs = d.toNat := by omega
          obtain ⟨D, rfl⟩ := Int.eq_ofNat_of_zero_le (show 0 ≤ d by omega)
          have e1 : ((D : Int)).natAbs = D := rfl
          rw [e1] at hk
          have b1 : n.natAbs < 9223372036854775808 := by omega
          have b2 : D < 9223372036854775808 := by omega
          clear hc a1 e1
          go_enter Try.func93, Try.ntmps93
          go_wp2_with fail
          go_quiet ((first | (go_at_call 92; exact Calls.quiet_of_same (abs_any _ (by omega) (by omega) _)) | (go_at_call 91; exact Calls.quiet_of (gcd_any _ _ b1 b2 _))))
          go_wp2_with fail
          go_ret
          exact ⟨rfl, ((Below.refl _ _).alloc (Nat.le_refl _) _).drewN _⟩
        · rw [okF_no n d (by omega)] at hc
          subst hc
          have t1 : decide (n ≤ 1073741824) = false := by simpa using h4
          go_enter Try.func93, Try.ntmps93
          go_wp2_with fail
          go_quiet (fail)
          go_wp2_with fail
          go_ret
          exact ⟨rfl, ((Below.refl _ _).alloc (Nat.le_refl _) _).drewN _⟩
      · rw [okF_no n d (by omega)] at hc
        subst hc
        have t1 : decide (-1073741824 ≤ n) = false := by simpa using h3
        go_enter Try.func93, Try.ntmps93
        go_wp2_with fail
        go_quiet (fail)
        go_wp2_with fail
        go_ret
        exact ⟨rfl, ((Below.refl _ _).alloc (Nat.le_refl _) _).drewN _⟩
    · rw [okF_no n d (by omega)] at hc
      subst hc
      have t1 : decide (d ≤ 1073741824) = false := by simpa using h2
      go_enter Try.func93, Try.ntmps93
      go_wp2_with fail
      go_quiet (fail)
      go_wp2_with fail
      go_ret
      exact ⟨rfl, ((Below.refl _ _).alloc (Nat.le_refl _) _).drewN _⟩
  · rw [okF_no n d (by omega)] at hc
    subst hc
    have t1 : decide (1 ≤ d) = false := by simpa using h1
    go_enter Try.func93, Try.ntmps93
    go_wp2_with fail
    go_quiet (fail)
    go_wp2_with fail
    go_ret
    exact ⟨rfl, ((Below.refl _ _).alloc (Nat.le_refl _) _).drewN _⟩



/-- Block p holds the fraction x over d, and may be written. -/
structure Box (w : World) (p : Nat) (x d : Int) : Prop where
  c0 : w.cell? ⟨p, 0, none⟩ = some (.int .i64 x)
  c1 : w.cell? ⟨p, 1, none⟩ = some (.int .i64 d)
  f0 : w.frozen? ⟨p, 0, none⟩ = false
  f1 : w.frozen? ⟨p, 1, none⟩ = false

theorem Box.lt {w : World} {p : Nat} {x d : Int} (h : Box w p x d) : p < w.heap.size := lt_of_cell h.c0
theorem Box.below {w w' : World} {p : Nat} {x d : Int} (h : Box w p x d) (hb : Below w.heap.size w w') : Box w' p x d :=
  ⟨(hb.cell (p := ⟨p, 0, none⟩) h.lt).trans h.c0, (hb.cell (p := ⟨p, 1, none⟩) h.lt).trans h.c1, (hb.frozen (p := ⟨p, 0, none⟩) h.lt).trans h.f0, (hb.frozen (p := ⟨p, 1, none⟩) h.lt).trans h.f1⟩
theorem Box.else {w w' : World} {b p : Nat} {x d : Int} (h : Box w p x d) (he : Else b w w') (hp : p ≠ b) : Box w' p x d :=
  ⟨(he.cell (p := ⟨p, 0, none⟩) hp).trans h.c0, (he.cell (p := ⟨p, 1, none⟩) hp).trans h.c1, (he.frozen (p := ⟨p, 0, none⟩) hp).trans h.f0, (he.frozen (p := ⟨p, 1, none⟩) hp).trans h.f1⟩
theorem Box.alloc {w : World} {p : Nat} {x d : Int} (h : Box w p x d) (o : Obj) : Box (w.alloc o) p x d := h.below ((Below.refl _ _).alloc (Nat.le_refl _) o)
theorem Box.drewN {w : World} {p : Nat} {x d : Int} (h : Box w p x d) (n : Nat) : Box (w.drewN n) p x d := ⟨h.c0, h.c1, h.f0, h.f1⟩
theorem Box.new (w : World) (x d : Int) (t : TypeId) : Box (w.alloc (.cells #[.int .i64 x, .int .i64 d] t)) w.heap.size x d :=
  ⟨by go_simp, by go_simp, by go_simp, by go_simp⟩
theorem Box.other {w : World} {p q : Nat} {x d : Int} (h : Box w p x d) (hq : p ≠ q) (i : Nat) (v : Value) : Box (w.setCell ⟨q, i, none⟩ v) p x d := by
  have hb : (w.setCell ⟨q, i, none⟩ v).heap[p]? = w.heap[p]? := Below.heap_setCell _ _ _ _ hq
  exact ⟨(World.cell?_of_block (w := w) (a := ⟨p, 0, none⟩) hb).trans h.c0, (World.cell?_of_block (w := w) (a := ⟨p, 1, none⟩) hb).trans h.c1, (World.frozen?_of_block (w := w) (a := ⟨p, 0, none⟩) hb).trans h.f0, (World.frozen?_of_block (w := w) (a := ⟨p, 1, none⟩) hb).trans h.f1⟩
theorem Box.set {w : World} {p : Nat} {x d : Int} (h : Box w p x d) (x' d' : Int) : Box ((w.setCell ⟨p, 0, none⟩ (.int .i64 x')).setCell ⟨p, 1, none⟩ (.int .i64 d')) p x' d' := by
  obtain ⟨c0, c1, f0, f1⟩ := h
  exact ⟨by go_simp, by go_simp, by go_simp, by go_simp⟩
theorem Box.set0 {w : World} {p : Nat} {x d : Int} (h : Box w p x d) (x' : Int) : Box (w.setCell ⟨p, 0, none⟩ (.int .i64 x')) p x' d := by
  obtain ⟨c0, c1, f0, f1⟩ := h
  exact ⟨by go_simp, by go_simp, by go_simp, by go_simp⟩

theorem lt5 {a b : Nat} (h : a < b) : a < b + 1 ∧ ¬ a = b ∧ ¬ b = a ∧ a < b := ⟨by omega, by omega, by omega, h⟩



theorem newF_half (a b : Int) : newF (2 * a) (2 * b) = newF a b := by
  by_cases h : b = 0
  · subst h; rw [Int.mul_zero, newF_zero, newF_zero]
  · have e1 : (2 * a).natAbs = 2 * a.natAbs := by omega
    have e2 : (2 * b).natAbs = 2 * b.natAbs := by omega
    have e3 : decide (2 * a < 0) = decide (a < 0) := by rw [decide_eq_decide]; omega
    have e4 : decide (2 * b < 0) = decide (b < 0) := by rw [decide_eq_decide]; omega
    unfold newF
    rw [if_neg (show ¬ 2 * b = 0 by omega), if_neg h, e1, e2, e3, e4, Nat.gcd_mul_left, Nat.mul_div_mul_left _ _ (by omega), Nat.mul_div_mul_left _ _ (by omega)]

theorem and1 (y : Int) : bits BinOp.and IntKind.i64 y 1 = y % 2 := by
  have e : (BitVec.ofInt 64 y &&& BitVec.ofInt 64 1).toNat = (y % 2).toNat := by
    rw [BitVec.toNat_and, BitVec.toNat_ofInt, BitVec.toNat_ofInt]
    have h1 : ((1 : Int) % ((2 ^ 64 : Nat) : Int)).toNat = 1 := by decide
    rw [h1, Nat.and_one_is_mod]
    omega
  show IntKind.i64.wrap ((BitVec.ofInt 64 y &&& BitVec.ofInt 64 1).toNat : Int) = y % 2
  rw [e, IntKind.wrap_i64]
  omega

theorem newF_neg (a b : Int) (hb : ¬ b = 0) : newF (-a) (-b) = newF a b := by
  have e1 : (-a).natAbs = a.natAbs := Int.natAbs_neg a
  have e2 : (-b).natAbs = b.natAbs := Int.natAbs_neg b
  unfold newF
  rw [if_neg (show ¬ -b = 0 by omega), if_neg hb, e1, e2]
  by_cases ha : a = 0
  · subst ha
    simp
  · have e3 : decide (-a < 0) = !decide (a < 0) := by rw [Bool.eq_iff_iff]; simp; omega
    have e4 : decide (-b < 0) = !decide (b < 0) := by rw [Bool.eq_iff_iff]; simp; omega
    rw [e3, e4]
    by_cases p : a < 0 <;> by_cases q : b < 0 <;> simp [p, q]

/-- The quotients by the divisor: what New gives is this, where it is valid, and the limit's error elsewhere. -/
theorem tail_math (x y : Int) (g : Nat) (hy : 0 < y) (hg : Nat.gcd x.natAbs y.natAbs = g) :
    (okF (x.tdiv g) (y / g) = true → newF x y = (x.tdiv g, y / g, 0)) ∧ (okF (x.tdiv g) (y / g) = false → newF x y = (0, 0, 3)) ∧ (x.tdiv g).natAbs ≤ x.natAbs ∧ 0 ≤ y / g ∧ y / g ≤ y := by
  obtain ⟨D, rfl⟩ := Int.eq_ofNat_of_zero_le (show 0 ≤ y by omega)
  have hD : 0 < D := by omega
  have e0 : ((D : Int)).natAbs = D := rfl
  rw [e0] at hg
  have hg0 : 0 < g := by rw [← hg]; exact Nat.gcd_pos_of_pos_right _ hD
  have q2 : (D : Int) / (g : Int) = ((D / g : Nat) : Int) := (Int.natCast_ediv D g).symm
  have n1 : (x.tdiv g).natAbs = x.natAbs / g := Int.natAbs_tdiv x g
  have s1 : x < 0 → x.tdiv g = -((x.natAbs / g : Nat) : Int) := fun h => by
    have := Int.tdiv_nonneg (a := -x) (b := (g : Int)) (by omega) (by omega)
    rw [Int.neg_tdiv] at this
    omega
  have s2 : ¬ x < 0 → x.tdiv g = ((x.natAbs / g : Nat) : Int) := fun h => by
    have := Int.tdiv_nonneg (a := x) (b := (g : Int)) (by omega) (by omega)
    omega
  have hdl : x.natAbs / g ≤ x.natAbs := Nat.div_le_self _ _
  have hdd : D / g ≤ D := Nat.div_le_self _ _
  have hd1 : 1 ≤ D / g := (Nat.le_div_iff_mul_le hg0).2 (by rw [← hg]; have := Nat.gcd_le_right x.natAbs hD; omega)
  have hco : Nat.gcd (x.natAbs / g) (D / g) = 1 := by
    have h := Nat.gcd_div (k := g) (by rw [← hg]; exact Nat.gcd_dvd_left _ _) (show g ∣ D by rw [← hg]; exact Nat.gcd_dvd_right _ _)
    rw [hg, Nat.div_self hg0] at h
    exact h
  rw [q2]
  refine ⟨fun h => ?_, fun h => ?_, by omega, by omega, by omega⟩
  · rw [okF_iff, n1] at h
    have e := newF_fit (num := x) (den := (D : Int)) (n := x.natAbs) (d := D) (g := g) (by omega) rfl rfl hg (by omega) (by omega)
    rw [e]
    by_cases p : x < 0
    · rw [if_neg (by simp [p]), s1 p]
    · rw [if_pos (by simp [p]), s2 p]
  · refine newF_big (num := x) (den := (D : Int)) (n := x.natAbs) (d := D) (g := g) (by omega) rfl rfl hg ?_
    rw [Bool.eq_false_iff] at h
    by_cases a1 : 1073741824 < x.natAbs / g
    · exact Or.inl a1
    · by_cases a2 : 1073741824 < D / g
      · exact Or.inr a2
      · exact absurd ((okF_iff _ _).2 ⟨by omega, by omega, by omega, by omega, by rw [n1]; exact hco⟩) h

theorem newF_edge (num den : Int) (h0 : ¬ den = 0) (h : (num = -9223372036854775808 ∧ den % 2 = 1) ∨ (den = -9223372036854775808 ∧ num % 2 = 1)) : newF num den = (0, 0, 3) := by
  have odd : ∀ m : Nat, m % 2 = 1 → Nat.gcd 9223372036854775808 m = 1 := fun m hm => by
    have e : (9223372036854775808 : Nat) = 2 ^ 63 := by decide
    rw [e]
    exact Nat.Coprime.pow_left 63 (by
      show Nat.gcd 2 m = 1
      rw [Nat.gcd_rec, hm]; decide)
  rcases h with ⟨rfl, h⟩ | ⟨rfl, h⟩
  · have e : ((-9223372036854775808 : Int)).natAbs = 9223372036854775808 := rfl
    refine newF_big (n := 9223372036854775808) (d := den.natAbs) (g := 1) h0 e rfl (odd _ (by omega)) (Or.inl (by decide))
  · have e : ((-9223372036854775808 : Int)).natAbs = 9223372036854775808 := rfl
    refine newF_big (n := num.natAbs) (d := 9223372036854775808) (g := 1) h0 rfl e (by rw [Nat.gcd_comm]; exact odd _ (by omega)) (Or.inr (by decide))

set_option maxHeartbeats 1600000 in
theorem rnew_pos (num den : Int) (hn : In64 num) (hd : In64 den) (h0 : ¬ den = 0) (w : World) : Calls Try.prog 19 #[.int .i64 num, .int .i64 den] w (Gave (newF num den) w) := by
  generalize hr : newF num den = r
  have HR := Lib.hid hr
  clear hr
  have hd0 : (den == 0) = false := by simpa using h0
  go_enter Try.func19, Try.ntmps19
  go_wp2_with fail
  go_loop [0, 1] (fun va vb => ∃ x y : Int, va = .int .i64 x ∧ vb = .int .i64 y ∧ In64 x ∧ In64 y ∧ ¬ y = 0 ∧ Hid (newF x y = r)) (fun va vb => if intOf va = -9223372036854775808 ∨ intOf vb = -9223372036854775808 then 1 else 0)
  case atStart => exact ⟨num, den, rfl, rfl, hn, hd, h0, HR⟩
  case round =>
    obtain ⟨x, y, rfl, rfl, hx, hy, hy0, HX⟩ := hrel
    have ax := and1 x
    have ay := and1 y
    by_cases hm : x = -9223372036854775808 ∨ y = -9223372036854775808
    · have mb : (x == -9223372036854775808 || y == -9223372036854775808) = true := by
        rcases hm with h | h <;> simp [h]
      by_cases he : x % 2 = 0 ∧ y % 2 = 0
      · have e1 : (x % 2 == 0) = true := by simpa using he.1
        have e2 : (y % 2 == 0) = true := by simpa using he.2
        obtain ⟨x2, hx2⟩ : ∃ k, x = 2 * k := ⟨x / 2, by omega⟩
        obtain ⟨y2, hy2⟩ : ∃ k, y = 2 * k := ⟨y / 2, by omega⟩
        subst hx2
        subst hy2
        have d1 : (2 * x2).tdiv 2 = x2 := Int.mul_tdiv_cancel_left _ (by decide)
        have d2 : (2 * y2).tdiv 2 = y2 := Int.mul_tdiv_cancel_left _ (by decide)
        have k1 := HX.out
        rw [newF_half] at k1
        have K1 := Lib.hid k1
        clear k1 HX
        unfold In64 at hx hy
        by_cases hx1 : x2 = -4611686018427387904
        · subst hx1
          go_wp2_with fail
          refine ⟨⟨_, _, rfl, rfl, ⟨by omega, by omega⟩, ⟨by omega, by omega⟩, by omega, K1⟩, ?_⟩
          rw [if_neg (by simp [intOf]; omega), if_pos (by simp [intOf])]
          decide
        · have f1 : (2 * x2 == -9223372036854775808) = false := by simp; omega
          have f2 : (2 * y2 == -9223372036854775808) = true := by simp; omega
          go_wp2_with fail
          refine ⟨⟨_, _, rfl, rfl, ⟨by omega, by omega⟩, ⟨by omega, by omega⟩, by omega, K1⟩, ?_⟩
          rw [if_neg (by simp [intOf]; omega), if_pos (by simp [intOf]; omega)]
          decide
      · have hr : r = (0, 0, 3) := HX.out.symm.trans (newF_edge x y hy0 (by unfold In64 at hx hy; omega))
        subst hr
        by_cases hx1 : x = -9223372036854775808
        · have e2 : (y % 2 == 0) = false := by simp; omega
          have e3 : (x == -9223372036854775808) = true := by simpa using hx1
          have e4 : (x % 2 == 0) = true := by simp; omega
          go_wp2_with fail
          refine bodyPost_ret (v := .tuple #[.agg #[.int .i64 0, .int .i64 0], .int .i64 3]) (by simp [results, Try.results19, go_sem]) rfl ⟨rfl, ?_⟩
          repeat (first | exact Below.refl _ _ | refine Below.drewN ?_ _ | refine Below.drew ?_ | refine Below.alloc ?_ (by simp) _ | refine Below.setCell ?_ (by simp) _)
        · have e3 : (x == -9223372036854775808) = false := by simpa using hx1
          have e5 : (y == -9223372036854775808) = true := by simp; omega
          have e4 : (x % 2 == 0) = false := by simp; omega
          go_wp2_with fail
          refine bodyPost_ret (v := .tuple #[.agg #[.int .i64 0, .int .i64 0], .int .i64 3]) (by simp [results, Try.results19, go_sem]) rfl ⟨rfl, ?_⟩
          repeat (first | exact Below.refl _ _ | refine Below.drewN ?_ _ | refine Below.drew ?_ | refine Below.alloc ?_ (by simp) _ | refine Below.setCell ?_ (by simp) _)
    · have n1 : (x == -9223372036854775808) = false := by simp; omega
      have n2 : (y == -9223372036854775808) = false := by simp; omega
      by_cases hneg : y < 0
      · have HX2 : Hid (newF (-x) (-y) = r) := Lib.hid ((newF_neg x y hy0).trans HX.out)
        obtain ⟨D, hD'⟩ := Int.eq_ofNat_of_zero_le (show 0 ≤ -y by omega)
        obtain rfl : y = -(D : Int) := by omega
        obtain ⟨z, rfl⟩ : ∃ z, x = -z := ⟨-x, by omega⟩
        have hx : In64 z := by unfold In64 at hx; exact ⟨by omega, by omega⟩
        rw [Int.neg_neg, Int.neg_neg] at HX2
        clear hD' HX ax ay
        obtain ⟨g, hg⟩ : ∃ g, Nat.gcd z.natAbs D = g := ⟨_, rfl⟩
        have hD : 0 < D := by omega
        obtain ⟨t1, t2, t3, t4, t5⟩ := tail_math z (D : Int) g (by omega) hg
        have HT1 := Lib.hid t1
        have HT2 := Lib.hid t2
        clear t1 t2
        have hg1 : 1 ≤ (g : Int) := by
          have := Nat.gcd_pos_of_pos_right z.natAbs hD
          omega
        have hg0 : ¬ (g : Int) = 0 := by omega
        have HG := Lib.hid hg
        clear hg
        have bx : z.natAbs < 9223372036854775808 := by unfold In64 at hx; omega
        have bD : D < 9223372036854775808 := by unfold In64 at hy; omega
        have q1 : -9223372036854775807 ≤ z.tdiv g := by unfold In64 at hx; omega
        have q2 : z.tdiv g ≤ 9223372036854775807 := by unfold In64 at hx; omega
        have q3 : (D : Int) / g ≤ 9223372036854775807 := by omega
        go_wp2_with fail
        refine (abs_any z (by unfold In64 at hx; omega) (by unfold In64 at hx; omega) _).mono ?_
        rintro e w1 ⟨rfl, hw⟩
        subst hw
        go_wp2_with fail
        refine (gcd_any _ D bx bD _).mono ?_
        rintro e w1 ⟨he, m, rfl⟩
        rw [HG.out] at he
        subst he
        go_wp2_with fail
        go_region
        all_goals (try go_wp2_with fail)
        cases hv : okF (z.tdiv g) ((D : Int) / g)
        · obtain rfl : r = (0, 0, 3) := HX2.out.symm.trans (HT2.out hv)
          have HV := Lib.hid hv
          clear hv
          refine (frvalid_any _ _ _ HV.out _).mono ?_
          rintro e w2 ⟨rfl, hb⟩
          obtain ⟨c0, c1, f0, f1⟩ := (((Box.new w 0 0 23).drewN (m + 1)).alloc (.cells #[.int .i64 (z.tdiv g), .int .i64 ((D : Int) / g)] 23)).below hb
          have bo := (Box.new ((w.alloc (.cells #[.int .i64 0, .int .i64 0] 23)).drewN (m + 1)) (z.tdiv g) ((D : Int) / g) 23).below hb
          rw [show ((w.alloc (.cells #[.int .i64 0, .int .i64 0] 23)).drewN (m + 1)).heap.size = w.heap.size + 1 from by show (w.alloc _).heap.size = _; simp] at bo
          obtain ⟨c2, c3, f2, f3⟩ := bo
          go_wp2_with fail
          refine bodyPost_ret (v := .tuple #[.agg #[.int .i64 0, .int .i64 0], .int .i64 3]) (by simp [results, Try.results19, go_sem, c0, c1, f0, f1]) rfl ⟨rfl, ?_⟩
          have hw0 := (((Below.refl w.heap.size w).alloc (Nat.le_refl _) (.cells #[.int .i64 0, .int .i64 0] 23)).drewN (m + 1))
          have hw1 := hw0.alloc hw0.size (.cells #[.int .i64 (z.tdiv g), .int .i64 ((D : Int) / g)] 23)
          exact ((hw1.trans (hb.mono hw1.size)).setCell (Nat.le_refl _) _).setCell (Nat.le_refl _) _
        · obtain rfl : r = (z.tdiv g, (D : Int) / g, 0) := HX2.out.symm.trans (HT1.out hv)
          have HV := Lib.hid hv
          clear hv
          refine (frvalid_any _ _ _ HV.out _).mono ?_
          rintro e w2 ⟨rfl, hb⟩
          obtain ⟨c0, c1, f0, f1⟩ := (((Box.new w 0 0 23).drewN (m + 1)).alloc (.cells #[.int .i64 (z.tdiv g), .int .i64 ((D : Int) / g)] 23)).below hb
          have bo := (Box.new ((w.alloc (.cells #[.int .i64 0, .int .i64 0] 23)).drewN (m + 1)) (z.tdiv g) ((D : Int) / g) 23).below hb
          rw [show ((w.alloc (.cells #[.int .i64 0, .int .i64 0] 23)).drewN (m + 1)).heap.size = w.heap.size + 1 from by show (w.alloc _).heap.size = _; simp] at bo
          obtain ⟨c2, c3, f2, f3⟩ := bo
          go_wp2_with fail
          refine bodyPost_ret (v := .tuple #[.agg #[.int .i64 (z.tdiv g), .int .i64 ((D : Int) / g)], .int .i64 0]) (by simp [results, Try.results19, go_sem, c0, c1, f0, f1]) rfl ⟨rfl, ?_⟩
          have hw0 := (((Below.refl w.heap.size w).alloc (Nat.le_refl _) (.cells #[.int .i64 0, .int .i64 0] 23)).drewN (m + 1))
          have hw1 := hw0.alloc hw0.size (.cells #[.int .i64 (z.tdiv g), .int .i64 ((D : Int) / g)] 23)
          exact ((hw1.trans (hb.mono hw1.size)).setCell (Nat.le_refl _) _).setCell (Nat.le_refl _) _
      · obtain ⟨D, rfl⟩ := Int.eq_ofNat_of_zero_le (show 0 ≤ y by omega)
        have HX2 := HX
        clear HX
        obtain ⟨g, hg⟩ : ∃ g, Nat.gcd (x).natAbs D = g := ⟨_, rfl⟩
        have hD : 0 < D := by omega
        obtain ⟨t1, t2, t3, t4, t5⟩ := tail_math (x) (D : Int) g (by omega) hg
        have HT1 := Lib.hid t1
        have HT2 := Lib.hid t2
        clear t1 t2
        have hg1 : 1 ≤ (g : Int) := by
          have := Nat.gcd_pos_of_pos_right (x).natAbs hD
          omega
        have hg0 : ¬ (g : Int) = 0 := by omega
        have HG := Lib.hid hg
        clear hg
        have bx : (x).natAbs < 9223372036854775808 := by unfold In64 at hx; omega
        have bD : D < 9223372036854775808 := by unfold In64 at hy; omega
        have q1 : -9223372036854775807 ≤ (x).tdiv g := by unfold In64 at hx; omega
        have q2 : (x).tdiv g ≤ 9223372036854775807 := by unfold In64 at hx; omega
        have q3 : (D : Int) / g ≤ 9223372036854775807 := by omega
        go_wp2_with fail
        refine (abs_any (x) (by unfold In64 at hx; omega) (by unfold In64 at hx; omega) _).mono ?_
        rintro e w1 ⟨rfl, hw⟩
        subst hw
        go_wp2_with fail
        refine (gcd_any _ D bx bD _).mono ?_
        rintro e w1 ⟨he, m, rfl⟩
        rw [HG.out] at he
        subst he
        go_wp2_with fail
        go_region
        all_goals (try go_wp2_with fail)
        cases hv : okF (x.tdiv g) ((D : Int) / g)
        · obtain rfl : r = (0, 0, 3) := HX2.out.symm.trans (HT2.out hv)
          have HV := Lib.hid hv
          clear hv
          refine (frvalid_any _ _ _ HV.out _).mono ?_
          rintro e w2 ⟨rfl, hb⟩
          obtain ⟨c0, c1, f0, f1⟩ := (((Box.new w 0 0 23).drewN (m + 1)).alloc (.cells #[.int .i64 (x.tdiv g), .int .i64 ((D : Int) / g)] 23)).below hb
          have bo := (Box.new ((w.alloc (.cells #[.int .i64 0, .int .i64 0] 23)).drewN (m + 1)) (x.tdiv g) ((D : Int) / g) 23).below hb
          rw [show ((w.alloc (.cells #[.int .i64 0, .int .i64 0] 23)).drewN (m + 1)).heap.size = w.heap.size + 1 from by show (w.alloc _).heap.size = _; simp] at bo
          obtain ⟨c2, c3, f2, f3⟩ := bo
          go_wp2_with fail
          refine bodyPost_ret (v := .tuple #[.agg #[.int .i64 0, .int .i64 0], .int .i64 3]) (by simp [results, Try.results19, go_sem, c0, c1, f0, f1]) rfl ⟨rfl, ?_⟩
          have hw0 := (((Below.refl w.heap.size w).alloc (Nat.le_refl _) (.cells #[.int .i64 0, .int .i64 0] 23)).drewN (m + 1))
          have hw1 := hw0.alloc hw0.size (.cells #[.int .i64 (x.tdiv g), .int .i64 ((D : Int) / g)] 23)
          exact ((hw1.trans (hb.mono hw1.size)).setCell (Nat.le_refl _) _).setCell (Nat.le_refl _) _
        · obtain rfl : r = (x.tdiv g, (D : Int) / g, 0) := HX2.out.symm.trans (HT1.out hv)
          have HV := Lib.hid hv
          clear hv
          refine (frvalid_any _ _ _ HV.out _).mono ?_
          rintro e w2 ⟨rfl, hb⟩
          obtain ⟨c0, c1, f0, f1⟩ := (((Box.new w 0 0 23).drewN (m + 1)).alloc (.cells #[.int .i64 (x.tdiv g), .int .i64 ((D : Int) / g)] 23)).below hb
          have bo := (Box.new ((w.alloc (.cells #[.int .i64 0, .int .i64 0] 23)).drewN (m + 1)) (x.tdiv g) ((D : Int) / g) 23).below hb
          rw [show ((w.alloc (.cells #[.int .i64 0, .int .i64 0] 23)).drewN (m + 1)).heap.size = w.heap.size + 1 from by show (w.alloc _).heap.size = _; simp] at bo
          obtain ⟨c2, c3, f2, f3⟩ := bo
          go_wp2_with fail
          refine bodyPost_ret (v := .tuple #[.agg #[.int .i64 (x.tdiv g), .int .i64 ((D : Int) / g)], .int .i64 0]) (by simp [results, Try.results19, go_sem, c0, c1, f0, f1]) rfl ⟨rfl, ?_⟩
          have hw0 := (((Below.refl w.heap.size w).alloc (Nat.le_refl _) (.cells #[.int .i64 0, .int .i64 0] 23)).drewN (m + 1))
          have hw1 := hw0.alloc hw0.size (.cells #[.int .i64 (x.tdiv g), .int .i64 ((D : Int) / g)] 23)
          exact ((hw1.trans (hb.mono hw1.size)).setCell (Nat.le_refl _) _).setCell (Nat.le_refl _) _

theorem rnew_all (num den : Int) (hn : In64 num) (hd : In64 den) (w : World) : Calls Try.prog 19 #[.int .i64 num, .int .i64 den] w (Gave (newF num den) w) := by
  by_cases h0 : den = 0
  · subst h0
    rw [newF_zero]
    go_enter Try.func19, Try.ntmps19
    go_wp2_with fail
    refine bodyPost_ret (v := .tuple #[.agg #[.int .i64 0, .int .i64 0], .int .i64 2]) (by simp [results, Try.results19, go_sem]) rfl ⟨rfl, ?_⟩
    repeat (first | exact Below.refl _ _ | refine Below.drewN ?_ _ | refine Below.drew ?_ | refine Below.alloc ?_ (by simp) _ | refine Below.setCell ?_ (by simp) _)
  · exact rnew_pos num den hn hd h0 w


end Go.Proofs.Ytjipmkgnndldpaa

namespace Go.Proofs.Ytjipmkgnndldpaa
open Go.RowKit
set_option linter.unusedSimpArgs false

set_option maxHeartbeats 800000 in
theorem rfinite_any (a : Option Addr) (n cap : Nat) (zs : List Int) (p inc : Int) (hp : In64 p) (hi : In64 inc) (b : Bool) (hb : finB zs p inc = b) (w : World) (h : RowZ w a n cap zs) :
    Calls Try.prog 135 #[curV a n cap p inc] w (Says (.bool b) w) := by
  have hB : Below w.heap.size w (w.alloc (.cells #[.slice a n cap, .int .i64 p, .int .i64 inc] 38)) := (Below.refl _ _).alloc (Nat.le_refl _) _
  have HBl := Lib.hid hB
  have H := Lib.hid (h.under hB)
  have HL := Lib.hid h.len
  have KF := Lib.hid (Cur3.new w (.slice a n cap) (.int .i64 p) (.int .i64 inc) 38)
  cases hok : okC zs p inc with
  | false =>
    obtain rfl : b = false := hb.symm.trans (finB_bad hok)
    have HO := Lib.hid hok
    clear h hB hb hok
    go_enter Try.func135, Try.ntmps135
    go_wp2_with fail
    refine (rvalid_any a n cap zs p inc hp hi false HO.out _ H.out).mono ?_
    rintro e w1 ⟨rfl, hb⟩
    go_wp2_with fail
    go_ret
    exact ⟨rfl, HBl.out.trans (hb.mono HBl.out.size)⟩
  | true =>
    obtain ⟨q, hq, g⟩ := okC_pos hok
    have hn1 : 1 ≤ n := by have := g.p1; have := g.p3; have := HL.out; omega
    have hcm := h.sm
    obtain ⟨j, hj⟩ : ∃ j, n = j + 1 := ⟨n - 1, by omega⟩
    obtain ⟨l, hl⟩ : ∃ l, zs.getD j 0 = l := ⟨_, rfl⟩
    have hbl : b = !decide (l = infV) := by rw [← hb, ← hl]; unfold finB; rw [hok, HL.out, show n - 1 = j by omega]; rfl
    have HO := Lib.hid hok
    have q1 : (n : Int) - 1 = (j : Int) := by omega
    have q2 : (j : Int) < (n : Int) := by omega
    have HJ := Lib.hid (And.intro hj hl)
    clear h hB hb hok hq g hj hl
    by_cases hf : l = infV
    · obtain rfl : b = false := by rw [hbl, decide_eq_true hf]; rfl
      have ht : (l != 4611686018427387904) = false := by simpa using hf
      clear hbl hf
      go_enter Try.func135, Try.ntmps135
      go_wp2_with fail
      refine (rvalid_any a n cap zs p inc hp hi true HO.out _ H.out).mono ?_
      rintro e w1 ⟨rfl, hb⟩
      obtain ⟨c0, c1, c2, f0, f1, f2⟩ := KF.out.below hb
      have HB1 := Lib.hid (HBl.out.trans (hb.mono HBl.out.size))
      obtain ⟨x, rfl, cl⟩ := (H.out.under hb).cell j (by omega)
      rw [HJ.out.2] at cl
      clear hb
      go_wp2_with fail
      go_ret
      exact ⟨rfl, HB1.out⟩
    · obtain rfl : b = true := by rw [hbl, decide_eq_false hf]; rfl
      have ht : (l != 4611686018427387904) = true := by simpa using hf
      clear hbl hf
      go_enter Try.func135, Try.ntmps135
      go_wp2_with fail
      refine (rvalid_any a n cap zs p inc hp hi true HO.out _ H.out).mono ?_
      rintro e w1 ⟨rfl, hb⟩
      obtain ⟨c0, c1, c2, f0, f1, f2⟩ := KF.out.below hb
      have HB1 := Lib.hid (HBl.out.trans (hb.mono HBl.out.size))
      obtain ⟨x, rfl, cl⟩ := (H.out.under hb).cell j (by omega)
      rw [HJ.out.2] at cl
      clear hb
      go_wp2_with fail
      go_ret
      exact ⟨rfl, HB1.out⟩

end Go.Proofs.Ytjipmkgnndldpaa
