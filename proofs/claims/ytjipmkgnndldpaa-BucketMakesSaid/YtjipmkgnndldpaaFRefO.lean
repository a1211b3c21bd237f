/- Contracts of the document's package of fractions, as package curve needs them: abs, Valid, New. By the verifier's side. | Contracts: the document's Finite, Start, Slope, Equal; Start and Equal at curves that are not valid. By the verifier's side. -/
import Derived.Test.YtjipmkgnndldpaaFCurX
import Derived.RegionTactic
import Derived.WalkSpells
import Derived.Test.YtjipmkgnndldpaaFRefARefP
import Derived.Test.YtjipmkgnndldpaaFBaseApartPickKeepS
namespace Go.Proofs.Ytjipmkgnndldpaa
open Go.RowKit
set_option linter.unusedSimpArgs false

theorem okF_iff (n d : Int) : okF n d = true ↔ 1 ≤ d ∧ d ≤ 1073741824 ∧ -1073741824 ≤ n ∧ n ≤ 1073741824 ∧ Nat.gcd n.natAbs d.natAbs = 1 := by
  unfold okF; simp

theorem okF_no (n d : Int) (h : ¬ (1 ≤ d ∧ d ≤ 1073741824 ∧ -1073741824 ≤ n ∧ n ≤ 1073741824)) : okF n d = false := by
  rw [Bool.eq_false_iff]; intro e; rw [okF_iff] at e; exact h ⟨e.1, e.2.1, e.2.2.1, e.2.2.2.1⟩


set_option maxHeartbeats 400000 in
theorem abs_any (n : Int) (h1 : -9223372036854775807 ≤ n) (h2 : n ≤ 9223372036854775807) (w : World) :
    Calls Try.prog 92 #[.int .i64 n] w fun e w' => e = .returned (.int .i64 (n.natAbs : Int)) ∧ w' = w := by
  by_cases h : n < 0
  · go_enter Try.func92, Try.ntmps92
    go_wp2
    all_goals (go_ret; exact ⟨ret_int (by omega), rfl⟩)
  · go_enter Try.func92, Try.ntmps92
    go_wp2
    all_goals (go_ret; exact ⟨ret_int (by omega), rfl⟩)

set_option maxHeartbeats 800000 in
theorem frvalid_any (n d : Int) (c : Bool) (hc : okF n d = c) (w : World) : Calls Try.prog 93 #[.agg #[.int .i64 n, .int .i64 d]] w (Says (.bool c) w) := by
  by_cases h1 : 1 ≤ d
  · by_cases h2 : d ≤ 1073741824
    · by_cases h3 : -1073741824 ≤ n
      · by_cases h4 : n ≤ 1073741824
        · have hk : (((Nat.gcd n.natAbs d.natAbs : Nat) : Int) == 1) = c := by
            rw [← hc, Bool.eq_iff_iff, okF_iff]
            simp only [beq_iff_eq]
            omega
          have a1 : d.natAbs = d.toNat := by omega
          obtain ⟨D, rfl⟩ := Int.eq_ofNat_of_zero_le (show 0 ≤ d by omega)
          have e1 : ((D : Int)).natAbs = D := rfl
          rw [e1] at hk
          have b1 : n.natAbs < 9223372036854775808 := by omega
          have b2 : D < 9223372036854775808 := by omega
          clear hc a1 e1
          go_enter Try.func93, Try.ntmps93
          go_wp2_with fail
          go_quiet ((first | (go_at_call 92; exact Calls.quiet_of_same (abs_any _ (by omega) (by omega) _)) | (go_at_call 91; exact Calls.quiet_of (gcd_any _ _ b1 b2 _))))
          go_wp2_with fail
          go_ret
          exact ⟨rfl, ((Below.refl _ _).alloc (Nat.le_refl _) _).drewN _⟩
        · rw [okF_no n d (by omega)] at hc
          subst hc
          have t1 : decide (n ≤ 1073741824) = false := by simpa using h4
          go_enter Try.func93, Try.ntmps93
          go_wp2_with fail
          go_quiet (fail)
          go_wp2_with fail
          go_ret
          exact ⟨rfl, ((Below.refl _ _).alloc (Nat.le_refl _) _).drewN _⟩
      · rw [okF_no n d (by omega)] at hc
        subst hc
        have t1 : decide (-1073741824 ≤ n) = false := by simpa using h3
        go_enter Try.func93, Try.ntmps93
        go_wp2_with fail
        go_quiet (fail)
        go_wp2_with fail
        go_ret
        exact ⟨rfl, ((Below.refl _ _).alloc (Nat.le_refl _) _).drewN _⟩
    · rw [okF_no n d (by omega)] at hc
      subst hc
      have t1 : decide (d ≤ 1073741824) = false := by simpa using h2
      go_enter Try.func93, Try.ntmps93
      go_wp2_with fail
      go_quiet (fail)
      go_wp2_with fail
      go_ret
      exact ⟨rfl, ((Below.refl _ _).alloc (Nat.le_refl _) _).drewN _⟩
  · rw [okF_no n d (by omega)] at hc
    subst hc
    have t1 : decide (1 ≤ d) = false := by simpa using h1
    go_enter Try.func93, Try.ntmps93
    go_wp2_with fail
    go_quiet (fail)
    go_wp2_with fail
    go_ret
    exact ⟨rfl, ((Below.refl _ _).alloc (Nat.le_refl _) _).drewN _⟩



/-- Block p holds the fraction x over d, and may be written. -/
structure Box (w : World) (p : Nat) (x d : Int) : Prop where
  c0 : w.cell? ⟨p, 0, none⟩ = some (.int .i64 x)
  c1 : w.cell? ⟨p, 1, none⟩ = some (.int .i64 d)
  f0 : w.frozen? ⟨p, 0, none⟩ = false
  f1 : w.frozen? ⟨p, 1, none⟩ = false

theorem Box.lt {w : World} {p : Nat} {x d : Int} (h : Box w p x d) : p < w.heap.size := lt_of_cell h.c0
theorem Box.below {w w' : World} {p : Nat} {x d : Int} (h : Box w p x d) (hb : Below w.heap.size w w') : Box w' p x d :=
  ⟨(hb.cell (p := ⟨p, 0, none⟩) h.lt).trans h.c0, (hb.cell (p := ⟨p, 1, none⟩) h.lt).trans h.c1, (hb.frozen (p := ⟨p, 0, none⟩) h.lt).trans h.f0, (hb.frozen (p := ⟨p, 1, none⟩) h.lt).trans h.f1⟩
theorem Box.else {w w' : World} {b p : Nat} {x d : Int} (h : Box w p x d) (he : Else b w w') (hp : p ≠ b) : Box w' p x d :=
  ⟨(he.cell (p := ⟨p, 0, none⟩) hp).trans h.c0, (he.cell (p := ⟨p, 1, none⟩) hp).trans h.c1, (he.frozen (p := ⟨p, 0, none⟩) hp).trans h.f0, (he.frozen (p := ⟨p, 1, none⟩) hp).trans h.f1⟩
theorem Box.alloc {w : World} {p : Nat} {x d : Int} (h : Box w p x d) (o : Obj) : Box (w.alloc o) p x d := h.below ((Below.refl _ _).alloc (Nat.le_refl _) o)
theorem Box.drewN {w : World} {p : Nat} {x d : Int} (h : Box w p x d) (n : Nat) : Box (w.drewN n) p x d := ⟨h.c0, h.c1, h.f0, h.f1⟩
theorem Box.new (w : World) (x d : Int) (t : TypeId) : Box (w.alloc (.cells #[.int .i64 x, .int .i64 d] t)) w.heap.size x d :=
  ⟨by go_simp, by go_simp, by go_simp, by go_simp⟩
theorem Box.other {w : World} {p q : Nat} {x d : Int} (h : Box w p x d) (hq : p ≠ q) (i : Nat) (v : Value) : Box (w.setCell ⟨q, i, none⟩ v) p x d := by
  have hb : (w.setCell ⟨q, i, none⟩ v).heap[p]? = w.heap[p]? := Below.heap_setCell _ _ _ _ hq
  exact ⟨(World.cell?_of_block (w := w) (a := ⟨p, 0, none⟩) hb).trans h.c0, (World.cell?_of_block (w := w) (a := ⟨p, 1, none⟩) hb).trans h.c1, (World.frozen?_of_block (w := w) (a := ⟨p, 0, none⟩) hb).trans h.f0, (World.frozen?_of_block (w := w) (a := ⟨p, 1, none⟩) hb).trans h.f1⟩
theorem Box.set {w : World} {p : Nat} {x d : Int} (h : Box w p x d) (x' d' : Int) : Box ((w.setCell ⟨p, 0, none⟩ (.int .i64 x')).setCell ⟨p, 1, none⟩ (.int .i64 d')) p x' d' := by
  obtain ⟨c0, c1, f0, f1⟩ := h
  exact ⟨by go_simp, by go_simp, by go_simp, by go_simp⟩
theorem Box.set0 {w : World} {p : Nat} {x d : Int} (h : Box w p x d) (x' : Int) : Box (w.setCell ⟨p, 0, none⟩ (.int .i64 x')) p x' d := by
  obtain ⟨c0, c1, f0, f1⟩ := h
  exact ⟨by go_simp, by go_simp, by go_simp, by go_simp⟩

theorem lt5 {a b : Nat} (h : a < b) : a < b + 1 ∧ ¬ a = b ∧ ¬ b = a ∧ a < b := ⟨by omega, by omega, by omega, h⟩



end Go.Proofs.Ytjipmkgnndldpaa

namespace Go.Proofs.Ytjipmkgnndldpaa
open Go.RowKit
set_option linter.unusedSimpArgs false

set_option maxHeartbeats 800000 in
theorem rfinite_any (a : Option Addr) (n cap : Nat) (zs : List Int) (p inc : Int) (hp : In64 p) (hi : In64 inc) (b : Bool) (hb : finB zs p inc = b) (w : World) (h : RowZ w a n cap zs) :
    Calls Try.prog 135 #[curV a n cap p inc] w (Says (.bool b) w) := by
  have hB : Below w.heap.size w (w.alloc (.cells #[.slice a n cap, .int .i64 p, .int .i64 inc] 38)) := (Below.refl _ _).alloc (Nat.le_refl _) _
  have HBl := Lib.hid hB
  have H := Lib.hid (h.under hB)
  have HL := Lib.hid h.len
  have KF := Lib.hid (Cur3.new w (.slice a n cap) (.int .i64 p) (.int .i64 inc) 38)
  cases hok : okC zs p inc with
  | false =>
    obtain rfl : b = false := hb.symm.trans (finB_bad hok)
    have HO := Lib.hid hok
    clear h hB hb hok
    go_enter Try.func135, Try.ntmps135
    go_wp2_with fail
    refine (rvalid_any a n cap zs p inc hp hi false HO.out _ H.out).mono ?_
    rintro e w1 ⟨rfl, hb⟩
    go_wp2_with fail
    go_ret
    exact ⟨rfl, HBl.out.trans (hb.mono HBl.out.size)⟩
  | true =>
    obtain ⟨q, hq, g⟩ := okC_pos hok
    have hn1 : 1 ≤ n := by have := g.p1; have := g.p3; have := HL.out; omega
    have hcm := h.sm
    obtain ⟨j, hj⟩ : ∃ j, n = j + 1 := ⟨n - 1, by omega⟩
    obtain ⟨l, hl⟩ : ∃ l, zs.getD j 0 = l := ⟨_, rfl⟩
    have hbl : b = !decide (l = infV) := by rw [← hb, ← hl]; unfold finB; rw [hok, HL.out, show n - 1 = j by omega]; rfl
    have HO := Lib.hid hok
    have q1 : (n : Int) - 1 = (j : Int) := by omega
    have q2 : (j : Int) < (n : Int) := by omega
    have HJ := Lib.hid (And.intro hj hl)
    clear h hB hb hok hq g hj hl
    by_cases hf : l = infV
    · obtain rfl : b = false := by rw [hbl, decide_eq_true hf]; rfl
      have ht : (l != 4611686018427387904) = false := by simpa using hf
      clear hbl hf
      go_enter Try.func135, Try.ntmps135
      go_wp2_with fail
      refine (rvalid_any a n cap zs p inc hp hi true HO.out _ H.out).mono ?_
      rintro e w1 ⟨rfl, hb⟩
      obtain ⟨c0, c1, c2, f0, f1, f2⟩ := KF.out.below hb
      have HB1 := Lib.hid (HBl.out.trans (hb.mono HBl.out.size))
      obtain ⟨x, rfl, cl⟩ := (H.out.under hb).cell j (by omega)
      rw [HJ.out.2] at cl
      clear hb
      go_wp2_with fail
      go_ret
      exact ⟨rfl, HB1.out⟩
    · obtain rfl : b = true := by rw [hbl, decide_eq_false hf]; rfl
      have ht : (l != 4611686018427387904) = true := by simpa using hf
      clear hbl hf
      go_enter Try.func135, Try.ntmps135
      go_wp2_with fail
      refine (rvalid_any a n cap zs p inc hp hi true HO.out _ H.out).mono ?_
      rintro e w1 ⟨rfl, hb⟩
      obtain ⟨c0, c1, c2, f0, f1, f2⟩ := KF.out.below hb
      have HB1 := Lib.hid (HBl.out.trans (hb.mono HBl.out.size))
      obtain ⟨x, rfl, cl⟩ := (H.out.under hb).cell j (by omega)
      rw [HJ.out.2] at cl
      clear hb
      go_wp2_with fail
      go_ret
      exact ⟨rfl, HB1.out⟩

end Go.Proofs.Ytjipmkgnndldpaa
