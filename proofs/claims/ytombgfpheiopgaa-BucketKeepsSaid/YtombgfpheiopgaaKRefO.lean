/- Contracts of the document's package of fractions, as package curve needs them: abs, Valid, New. By the verifier's side. | Contracts: the document's Finite, Start, Slope, Equal; Start and Equal at curves that are not valid. By the verifier's side. -/
import Derived.Test.YtombgfpheiopgaaKCurX
import Derived.RegionTactic
import Derived.WalkSpells
import Derived.Test.YtombgfpheiopgaaKRefP
import Derived.Test.YtombgfpheiopgaaKBaseApartPickKeepS
namespace Go.Proofs.Ytombgfpheiopgaa
open Go.RowKit
set_option linter.unusedSimpArgs false

theorem okF_iff (n d : Int) : okF n d = true ↔ 1 ≤ d ∧ d ≤ 1073741824 ∧ -1073741824 ≤ n ∧ n ≤ 1073741824 ∧ Nat.gcd n.natAbs d.natAbs = 1 := by
  unfold okF; simp

theorem okF_no (n d : Int) (h : ¬ (1 ≤ d ∧ d ≤ 1073741824 ∧ -1073741824 ≤ n ∧ n ≤ 1073741824)) : okF n d = false := by
  rw [Bool.eq_false_iff]; intro e; rw [okF_iff] at e; exact h ⟨e.1, e.2.1, e.2.2.1, e.2.2.2.1⟩


set_option maxHeartbeats 400000 in
theorem abs_any (n : Int) (h1 : -9223372036854775807 ≤ n) (h2 : n ≤ 9223372036854775807) (w : World) :
    Calls Try.prog 180 #[.int .i64 n] w fun e w' => e = .returned (.int .i64 (n.natAbs : Int)) ∧ w' = w := by
  by_cases h : n < 0
  · go_enter Try.func180, Try.ntmps180
    go_wp2
    all_goals (go_ret; exact ⟨ret_int (by omega), rfl⟩)
  · go_enter Try.func180, Try.ntmps180
    go_wp2
    all_goals (go_ret; exact ⟨ret_int (by omega), rfl⟩)

set_option maxHeartbeats 800000 in
theorem frvalid_any (n d : Int) (c : Bool) (hc : okF n d = c) (w : World) : Calls Try.prog 177 #[.agg #[.int .i64 n, .int .i64 d]] w (Says (.bool c) w) := by
  by_cases h1 : 1 ≤ d
  · by_cases h2 : d ≤ 1073741824
    · by_cases h3 : -1073741824 ≤ n
      · by_cases h4 : n ≤ 1073741824
        · have hk : (((Nat.gcd n.natAbs d.natAbs : Nat) : Int) == 1) = c := by
            rw [← hc, Bool.eq_iff_iff, okF_iff]
            simp only [beq_iff_eq]
            omega
          have a1 : d.natAbs = d.toNat := by omega
          obtain ⟨D, rfl⟩ := Int.eq_ofNat_of_zero_le (show 0 ≤ d by omega)
          have e1 : ((D : Int)).natAbs = D := rfl
          rw [e1] at hk
          have b1 : n.natAbs < 9223372036854775808 := by omega
          have b2 : D < 9223372036854775808 := by omega
          clear hc a1 e1
          go_enter Try.func177, Try.ntmps177
          go_wp2_with fail
          go_quiet ((first | (go_at_call 180; exact Calls.quiet_of_same (abs_any _ (by omega) (by omega) _)) | (go_at_call 179; exact Calls.quiet_of (gcd_any _ _ b1 b2 _))))
          go_wp2_with fail
          go_ret
          exact ⟨rfl, ((Below.refl _ _).alloc (Nat.le_refl _) _).drewN _⟩
        · rw [okF_no n d (by omega)] at hc
          subst hc
          have t1 : decide (n ≤ 1073741824) = false := by simpa using h4
          go_enter Try.func177, Try.ntmps177
          go_wp2_with fail
          go_quiet (fail)
          go_wp2_with fail
          go_ret
          exact ⟨rfl, ((Below.refl _ _).alloc (Nat.le_refl _) _).drewN _⟩
      · rw [okF_no n d (by omega)] at hc
        subst hc
        have t1 : decide (-1073741824 ≤ n) = false := by simpa using h3
        go_enter Try.func177, Try.ntmps177
        go_wp2_with fail
        go_quiet (fail)
        go_wp2_with fail
        go_ret
        exact ⟨rfl, ((Below.refl _ _).alloc (Nat.le_refl _) _).drewN _⟩
    · rw [okF_no n d (by omega)] at hc
      subst hc
      have t1 : decide (d ≤ 1073741824) = false := by simpa using h2
      go_enter Try.func177, Try.ntmps177
      go_wp2_with fail
      go_quiet (fail)
      go_wp2_with fail
      go_ret
      exact ⟨rfl, ((Below.refl _ _).alloc (Nat.le_refl _) _).drewN _⟩
  · rw [okF_no n d (by omega)] at hc
    subst hc
    have t1 : decide (1 ≤ d) = false := by simpa using h1
    go_enter Try.func177, Try.ntmps177
    go_wp2_with fail
    go_quiet (fail)
    go_wp2_with fail
    go_ret
    exact ⟨rfl, ((Below.refl _ _).alloc (Nat.le_refl _) _).drewN _⟩



/-- Block p holds the fraction x over d, and may be written. -/
structure Box (w : World) (p : Nat) (x d : Int) : Prop where
  c0 : w.cell? ⟨p, 0, none⟩ = some (.int .i64 x)
  c1 : w.cell? ⟨p, 1, none⟩ = some (.int .i64 d)
  f0 : w.frozen? ⟨p, 0, none⟩ = false
  f1 : w.frozen? ⟨p, 1, none⟩ = false

theorem Box.lt {w : World} {p : Nat} {x d : Int} (h : Box w p x d) : p < w.heap.size := lt_of_cell h.c0
theorem Box.below {w w' : World} {p : Nat} {x d : Int} (h : Box w p x d) (hb : Below w.heap.size w w') : Box w' p x d :=
  ⟨(hb.cell (p := ⟨p, 0, none⟩) h.lt).trans h.c0, (hb.cell (p := ⟨p, 1, none⟩) h.lt).trans h.c1, (hb.frozen (p := ⟨p, 0, none⟩) h.lt).trans h.f0, (hb.frozen (p := ⟨p, 1, none⟩) h.lt).trans h.f1⟩
theorem Box.else {w w' : World} {b p : Nat} {x d : Int} (h : Box w p x d) (he : Else b w w') (hp : p ≠ b) : Box w' p x d :=
  ⟨(he.cell (p := ⟨p, 0, none⟩) hp).trans h.c0, (he.cell (p := ⟨p, 1, none⟩) hp).trans h.c1, (he.frozen (p := ⟨p, 0, none⟩) hp).trans h.f0, (he.frozen (p := ⟨p, 1, none⟩) hp).trans h.f1⟩
theorem Box.alloc {w : World} {p : Nat} {x d : Int} (h : Box w p x d) (o : Obj) : Box (w.alloc o) p x d := h.below ((Below.refl _ _).alloc (Nat.le_refl _) o)
theorem Box.drewN {w : World} {p : Nat} {x d : Int} (h : Box w p x d) (n : Nat) : Box (w.drewN n) p x d := ⟨h.c0, h.c1, h.f0, h.f1⟩
theorem Box.new (w : World) (x d : Int) (t : TypeId) : Box (w.alloc (.cells #[.int .i64 x, .int .i64 d] t)) w.heap.size x d :=
  ⟨by go_simp, by go_simp, by go_simp, by go_simp⟩
theorem Box.other {w : World} {p q : Nat} {x d : Int} (h : Box w p x d) (hq : p ≠ q) (i : Nat) (v : Value) : Box (w.setCell ⟨q, i, none⟩ v) p x d := by
  have hb : (w.setCell ⟨q, i, none⟩ v).heap[p]? = w.heap[p]? := Below.heap_setCell _ _ _ _ hq
  exact ⟨(World.cell?_of_block (w := w) (a := ⟨p, 0, none⟩) hb).trans h.c0, (World.cell?_of_block (w := w) (a := ⟨p, 1, none⟩) hb).trans h.c1, (World.frozen?_of_block (w := w) (a := ⟨p, 0, none⟩) hb).trans h.f0, (World.frozen?_of_block (w := w) (a := ⟨p, 1, none⟩) hb).trans h.f1⟩
theorem Box.set {w : World} {p : Nat} {x d : Int} (h : Box w p x d) (x' d' : Int) : Box ((w.setCell ⟨p, 0, none⟩ (.int .i64 x')).setCell ⟨p, 1, none⟩ (.int .i64 d')) p x' d' := by
  obtain ⟨c0, c1, f0, f1⟩ := h
  exact ⟨by go_simp, by go_simp, by go_simp, by go_simp⟩
end Go.Proofs.Ytombgfpheiopgaa

namespace Go.Proofs.Ytombgfpheiopgaa
open Go.RowKit
set_option linter.unusedSimpArgs false

end Go.Proofs.Ytombgfpheiopgaa
