/- Contracts: slices.IsSorted at numbers, curve.Valid. By the verifier's side. -/
import Derived.Test.YtkienpbmoilheaaGreatACurAGrow
import Derived.BigQuiet
import Derived.Deep.QuietTactic
namespace Go.Proofs.YtkienpbmoilheaaGreat
open Go.RowKit
set_option linter.unusedSimpArgs false

theorem less_q (x y : Int) (b : Bool) (hb : decide (x < y) = b) (w : World) : Calls Tryz.prog 74 #[.int .i64 x, .int .i64 y] w fun e w' => e = .returned (.bool b) ∧ w' = w := by
  subst hb
  exact (less_any x y w).mono fun _ _ ⟨h1, h2⟩ => ⟨h1, h2.symm⟩

theorem hdr_add {w wr : World} (h : ∃ m, wr = w.drewN m) (n : Nat) : ∃ m, wr.drewN n = w.drewN m := by
  obtain ⟨m, rfl⟩ := h; exact ⟨m + n, World.drewN_drewN _ _ _⟩

set_option maxHeartbeats 800000 in
theorem isSorted_any (a : Option Addr) (n cap : Nat) (zs : List Int) (w : World) (h : RowZ w a n cap zs) :
    Calls Tryz.prog 52 #[.slice a n cap] w (Drew (.bool (sortedB zs)) w) := by
  have H := Lib.hid h
  have hn : n ≤ 140737488355328 := h.sm
  clear h
  generalize hs : sortedB zs = sb
  have HS := Lib.hid hs
  clear hs
  go_enter Tryz.func52, Tryz.ntmps52
  go_wp2
  go_loopw [3] (fun vi wr => ∃ i : Int, vi = .int .i64 i ∧ -1 ≤ i ∧ i < n ∧ Hid (∀ j : Nat, i ≤ j → j + 1 < n → zs.getD j 0 ≤ zs.getD (j + 1) 0) ∧ Hid (∃ m, wr = w.drewN m)) (fun vi _ => (intOf vi + 1).toNat)
  case atStart => exact ⟨(n : Int) - 1, rfl, by omega, by omega, fun j h1 h2 => by omega, 0, rfl⟩
  case round =>
    obtain ⟨i, rfl, h1, h2, hall, hdr⟩ := hrel
    have HW : Hid (RowZ wr a n cap zs) := Lib.hid (by obtain ⟨m, hm⟩ := hdr.out; rw [hm]; exact H.out.drewN m)
    by_cases hlt : 0 < i
    · obtain ⟨j, rfl⟩ : ∃ j : Nat, i = (j : Int) + 1 := ⟨(i - 1).toNat, by omega⟩
      obtain ⟨x, rfl, c1, c0⟩ := HW.out.cellS j (by omega)
      obtain ⟨y, hy⟩ : ∃ z, zs.getD (j + 1) 0 = z := ⟨_, rfl⟩
      obtain ⟨z, hz⟩ : ∃ z, zs.getD j 0 = z := ⟨_, rfl⟩
      rw [hy] at c1
      rw [hz] at c0
      have HY := Lib.hid hy
      have HZ := Lib.hid hz
      clear hy hz
      have hw1 : IntKind.i64.wrap (j : Int) = j := IntWalk.i64_in _ ⟨by omega, by omega⟩
      have hw2 : (0 : Int) ≤ (j : Int) := by omega
      have hw3 : (0 : Int) ≤ (j : Int) + 1 := by omega
      have hw4 : ((j : Int) + 1).toNat = j + 1 := by omega
      have hw5 : (j : Int) < (n : Int) := by omega
      cases hb : decide (y < z) with
      | true =>
        have HB := Lib.hid hb
        clear hb
        go_wp2_with fail
        go_quiet ((go_at_call 74; exact Calls.quiet_of_same (less_q _ _ true HB.out _)))
        go_wp2_with fail
        go_ret
        refine ⟨?_, hdr_add hdr.out nq⟩
        have hnot : ¬ sortedB zs = true := by
          rw [sortedB_iff]
          intro hh
          have h3 := hh j (by rw [H.out.len]; omega)
          have h4 := of_decide_eq_true HB.out
          rw [HY.out, HZ.out] at h3
          omega
        rw [← HS.out, Bool.eq_false_iff.2 hnot]; rfl
      | false =>
        have HB := Lib.hid hb
        clear hb
        go_wp2_with fail
        go_quiet ((go_at_call 74; exact Calls.quiet_of_same (less_q _ _ false HB.out _)))
        clear hw1 hw2 hw3 hw4 hw5
        go_wp2_with fail
        go_roundw
        case rel =>
          refine ⟨(j : Int), by go_num, by omega, by omega, fun q hq1 hq2 => ?_, hdr_add hdr.out nq⟩
          by_cases he : q = j
          · subst he
            have h4 := of_decide_eq_false HB.out
            rw [HY.out, HZ.out]
            omega
          · exact hall.out q (by omega) hq2
        case measure => simp [intOf]; omega
    · go_wp2_with fail
      go_ret
      refine ⟨?_, hdr.out⟩
      have hyes : sortedB zs = true := by
        rw [sortedB_iff]
        intro j hj
        rw [H.out.len] at hj
        exact hall.out j (by omega) hj
      rw [← HS.out, hyes]; rfl

end Go.Proofs.YtkienpbmoilheaaGreat

namespace Go.Proofs.YtkienpbmoilheaaGreat
open Go.RowKit
set_option linter.unusedSimpArgs false

/-- Whether a curve is valid, as the program tests it. -/
def okC (zs : List Int) (p inc : Int) : Bool :=
  if 400 < zs.length ∨ p < 1 ∨ (zs.length : Int) < p ∨ 120 < p then false
  else if inB inc = false then false
  else if badB zs = true then false
  else if sortedB zs = false then false
  else if zs.getD (zs.length - 1) 0 = infV then decide (p = 1) && decide (inc = 0)
  else decide (zs.getD (zs.length - 1) 0 ≤ zs.getD (zs.length - p.toNat) 0 + inc)

theorem inB_iff (v : Int) : inB v = true ↔ 0 ≤ v ∧ v ≤ 1073741824 := by unfold inB; simp
theorem outB_false (v : Int) : outB v = false ↔ (0 ≤ v ∧ v ≤ 1073741824) ∨ v = 4611686018427387904 := by
  unfold outB
  rw [← inB_iff]
  cases h : inB v <;> simp

theorem badB_false {zs : List Int} : badB zs = false ↔ ∀ i, i < zs.length → (0 ≤ zs.getD i 0 ∧ zs.getD i 0 ≤ 1073741824) ∨ zs.getD i 0 = infV := by
  constructor
  · intro h i hi
    rw [← outB_false]
    cases hb : outB (zs.getD i 0) with
    | false => rfl
    | true => rw [badB_of hi hb] at h; cases h
  · intro h
    exact badB_not fun i hi => (outB_false _).2 (h i hi)

theorem okC_iff (zs : List Int) (p : Nat) (inc : Int) : okC zs p inc = true ↔ Good zs p inc := by
  unfold okC
  constructor
  · intro h
    split at h
    · cases h
    · rename_i h1
      split at h
      · cases h
      · rename_i h2
        split at h
        · cases h
        · rename_i h3
          split at h
          · cases h
          · rename_i h4
            have g2 := (inB_iff inc).1 (by simpa using h2)
            have g3 := badB_false.1 (by simpa using h3)
            have g4 := (sortedB_iff zs).1 (by simpa using h4)
            split at h
            · rename_i h5
              simp at h
              exact ⟨by omega, by omega, by omega, by omega, g2.1, g2.2, g3, g4, fun _ => ⟨by omega, h.2⟩, fun hx => absurd h5 hx⟩
            · rename_i h5
              have h6 := of_decide_eq_true h
              rw [Int.toNat_natCast] at h6
              exact ⟨by omega, by omega, by omega, by omega, g2.1, g2.2, g3, g4, fun hx => absurd hx h5, fun _ => h6⟩
  · intro g
    have a1 := g.few; have a2 := g.p1; have a3 := g.p2; have a4 := g.p3
    rw [if_neg (by omega), if_neg (by rw [(inB_iff inc).2 ⟨g.i0, g.i1⟩]; decide), if_neg (by rw [badB_false.2 g.val]; decide), if_neg (by rw [(sortedB_iff zs).2 g.mono]; decide)]
    split
    · rename_i h5
      obtain ⟨h6, h7⟩ := g.tailI h5
      simp [h6, h7]
    · rename_i h5
      rw [Int.toNat_natCast]
      exact decide_eq_true (g.tailF h5)

theorem okC_pos {zs : List Int} {p inc : Int} (h : okC zs p inc = true) : ∃ q : Nat, p = q ∧ Good zs q inc := by
  have h1 : 1 ≤ p := by
    unfold okC at h
    split at h
    · cases h
    · omega
  obtain ⟨q, rfl⟩ := Int.eq_ofNat_of_zero_le (show 0 ≤ p by omega)
  exact ⟨q, rfl, (okC_iff zs q inc).1 h⟩

/-- A curve as a value. -/
abbrev curV (a : Option Addr) (n cap : Nat) (p inc : Int) : Value := .agg #[.slice a n cap, .int .i64 p, .int .i64 inc]

set_option maxHeartbeats 3200000 in
theorem valid_any (a : Option Addr) (n cap : Nat) (zs : List Int) (p inc : Int) (hp : In64 p) (hi : In64 inc) (b : Bool) (hb : okC zs p inc = b) (w : World) (h : RowZ w a n cap zs) :
    Calls Tryz.prog 33 #[curV a n cap p inc] w (Says (.bool b) w) := by
  have H := Lib.hid h
  have HB := Lib.hid hb
  have hn := h.sm
  have hl := h.len
  subst hl
  clear h hb
  by_cases h1 : 400 < zs.length
  · have e : b = false := by rw [← HB.out]; unfold okC; rw [if_pos (.inl h1)]
    subst e
    go_enter Tryz.func33, Tryz.ntmps33
    go_wp2_with fail
    go_ret
    exact ⟨rfl, (Below.refl _ _).alloc (Nat.le_refl _) _⟩
  by_cases h2 : p < 1
  · have e : b = false := by rw [← HB.out]; unfold okC; rw [if_pos (.inr (.inl h2))]
    subst e
    go_enter Tryz.func33, Tryz.ntmps33
    go_wp2_with fail
    go_ret
    exact ⟨rfl, (Below.refl _ _).alloc (Nat.le_refl _) _⟩
  obtain ⟨q, rfl⟩ := Int.eq_ofNat_of_zero_le (show 0 ≤ p by omega)
  by_cases h3 : zs.length < q ∨ 120 < q
  · have e : b = false := by rw [← HB.out]; unfold okC; rw [if_pos (by omega)]
    subst e
    by_cases h4 : zs.length ≤ 120
    · have h5 : zs.length < q := by omega
      clear h3
      go_enter Tryz.func33, Tryz.ntmps33
      go_wp2_with fail
      go_ret
      exact ⟨rfl, (Below.refl _ _).alloc (Nat.le_refl _) _⟩
    · have h5 : 120 < q := by omega
      have h6 : (120 : Int) < (zs.length : Int) := by omega
      clear h3
      go_enter Tryz.func33, Tryz.ntmps33
      go_wp2_with fail
      go_ret
      exact ⟨rfl, (Below.refl _ _).alloc (Nat.le_refl _) _⟩
  have q1 : 1 ≤ q := by omega
  have q2 : q ≤ zs.length := by omega
  have q3 : q ≤ 120 := by omega
  have L1 : zs.length ≤ 400 := by omega
  have K1 : Hid (¬ (400 < zs.length ∨ (q : Int) < 1 ∨ (zs.length : Int) < (q : Int) ∨ 120 < (q : Int))) := Lib.hid (by omega)
  clear h1 h2 h3
  have hcase : (zs.length ≤ 120) ∨ ((120 : Int) < (zs.length : Int)) := by omega
  have HA : Hid (RowZ (w.alloc (.cells #[.slice a zs.length cap, .int .i64 q, .int .i64 inc] 24)) a zs.length cap zs) := Lib.hid (H.out.alloc _)
  have HBl : Hid (Below w.heap.size w (w.alloc (.cells #[.slice a zs.length cap, .int .i64 q, .int .i64 inc] 24))) := Lib.hid ((Below.refl _ _).alloc (Nat.le_refl _) _)
  cases hi1 : inB inc with
  | false =>
    have e : b = false := by rw [← HB.out]; unfold okC; rw [if_neg K1.out, if_pos hi1]
    subst e
    have HI := Lib.hid hi1
    clear hi1
    rcases hcase with hc | hc <;>
    · go_enter Tryz.func33, Tryz.ntmps33
      go_wp2_with fail
      refine (bounded_any inc _).mono ?_
      rintro e w1 ⟨rfl, rfl⟩
      rw [HI.out]
      go_wp2_with fail
      go_ret
      exact ⟨rfl, HBl.out⟩
  | true =>
  cases hb1 : badB zs with
  | true =>
    have e : b = false := by rw [← HB.out]; unfold okC; rw [if_neg K1.out, if_neg (by rw [hi1]; decide), if_pos hb1]
    subst e
    have HI := Lib.hid hi1
    have HX := Lib.hid hb1
    clear hi1 hb1
    rcases hcase with hc | hc <;>
    · go_enter Tryz.func33, Tryz.ntmps33
      go_wp2_with fail
      refine (bounded_any inc _).mono ?_
      rintro e w1 ⟨rfl, rfl⟩
      rw [HI.out]
      go_wp2_with fail
      refine (containsFunc_any a _ cap zs _ HA.out).mono ?_
      rintro e w1 ⟨rfl, rfl⟩
      rw [HX.out]
      go_wp2_with fail
      go_ret
      exact ⟨rfl, HBl.out⟩
  | false =>
  cases hs1 : sortedB zs with
  | false =>
    have e : b = false := by rw [← HB.out]; unfold okC; rw [if_neg K1.out, if_neg (by rw [hi1]; decide), if_neg (by rw [hb1]; decide), if_pos hs1]
    subst e
    have HI := Lib.hid hi1
    have HX := Lib.hid hb1
    have HS := Lib.hid hs1
    clear hi1 hb1 hs1
    rcases hcase with hc | hc <;>
    · go_enter Tryz.func33, Tryz.ntmps33
      go_wp2_with fail
      refine (bounded_any inc _).mono ?_
      rintro e w1 ⟨rfl, rfl⟩
      rw [HI.out]
      go_wp2_with fail
      refine (containsFunc_any a _ cap zs _ HA.out).mono ?_
      rintro e w1 ⟨rfl, rfl⟩
      rw [HX.out]
      go_wp2_with fail
      refine (isSorted_any a _ cap zs _ HA.out).mono ?_
      rintro e w1 ⟨rfl, m, rfl⟩
      rw [HS.out]
      go_wp2_with fail
      go_ret
      exact ⟨rfl, HBl.out.drewN _⟩
  | true =>
  have K2 : Hid (okC zs q inc = if zs.getD (zs.length - 1) 0 = infV then decide ((q : Int) = 1) && decide (inc = 0) else decide (zs.getD (zs.length - 1) 0 ≤ zs.getD (zs.length - (q : Int).toNat) 0 + inc)) := Lib.hid (by
    unfold okC; rw [if_neg K1.out, if_neg (by rw [hi1]; decide), if_neg (by rw [hb1]; decide), if_neg (by rw [hs1]; decide)])
  have G1 := Lib.hid (badB_false.1 hb1)
  have G2 := Lib.hid ((sortedB_iff zs).1 hs1)
  obtain ⟨i0, i1⟩ := (inB_iff inc).1 hi1
  have HI := Lib.hid hi1
  have HX := Lib.hid hb1
  have HS := Lib.hid hs1
  clear hi1 hb1 hs1
  obtain ⟨j, hj⟩ : ∃ j, zs.length = j + 1 := ⟨zs.length - 1, by omega⟩
  obtain ⟨x, rfl, cj⟩ := HA.out.cell j (by omega)
  obtain ⟨k, hk⟩ : ∃ k, zs.length = k + q := ⟨zs.length - q, by omega⟩
  obtain ⟨x', hx, ck⟩ := HA.out.cell k (by omega)
  obtain rfl : x = x' := Option.some.inj hx
  obtain ⟨l, hl⟩ : ∃ l, zs.getD j 0 = l := ⟨_, rfl⟩
  obtain ⟨v, hv⟩ : ∃ v, zs.getD k 0 = v := ⟨_, rfl⟩
  rw [hl] at cj
  rw [hv] at ck
  have bl := G1.out j (by omega)
  have bv := G1.out k (by omega)
  have bvl := mono_le G2.out (j - k) k (by omega)
  rw [show k + (j - k) = j by omega, hl, hv] at bvl
  rw [hl] at bl
  rw [hv] at bv
  have HK : Hid (okC zs q inc = if l = infV then decide ((q : Int) = 1) && decide (inc = 0) else decide (l ≤ v + inc)) := Lib.hid (by
    rw [K2.out, show zs.length - 1 = j by omega, hl, Int.toNat_natCast, show zs.length - q = k by omega, hv])
  have hw1 : IntKind.i64.wrap ((zs.length : Int) - 1) = j := by rw [hj, show (((j + 1 : Nat) : Int)) - 1 = (j : Int) by omega]; exact IntWalk.i64_in _ ⟨by omega, by omega⟩
  have hw2 : IntKind.i64.wrap ((zs.length : Int) - (q : Int)) = k := by rw [hk, show (((k + q : Nat) : Int)) - (q : Int) = (k : Int) by omega]; exact IntWalk.i64_in _ ⟨by omega, by omega⟩
  have hw3 : (0 : Int) ≤ (j : Int) := by omega
  have hw4 : (0 : Int) ≤ (k : Int) := by omega
  have hw5 : (j : Int) < (zs.length : Int) := by omega
  have hw6 : (k : Int) < (zs.length : Int) := by omega
  have hw7 : (zs.length : Int) - 1 = (j : Int) := by omega
  have hw8 : (zs.length : Int) - (q : Int) = (k : Int) := by omega
  have HC := Lib.hid (And.intro hcase (And.intro hj (And.intro hk (And.intro hl hv))))
  clear hcase hj hk hl hv K2 hx
  by_cases hinf : l = infV
  · have hinf' : (l == 4611686018427387904) = true := by simpa using hinf
    have e : b = (decide ((q : Int) = 1) && decide (inc = 0)) := by rw [← HB.out, HK.out, if_pos hinf]
    have HE := Lib.hid e
    have HF := Lib.hid hinf
    clear e hinf bl bv bvl
    have HW := Lib.hid (And.intro hw2 hw8)
    clear hw2 hw8
    by_cases hq : q = 1
    · have hq' : ((q : Int) == 1) = true := by simp [hq]
      by_cases hz : inc = 0
      · have hz' : (inc == 0) = true := by simpa using hz
        have e : b = true := by rw [HE.out, hq, hz]; rfl
        clear hq hz
        subst e
        rcases HC.out.1 with hc | hc <;>
        · go_enter Tryz.func33, Tryz.ntmps33
          go_wp2_with fail
          refine (bounded_any inc _).mono ?_
          rintro e w1 ⟨rfl, rfl⟩
          rw [HI.out]
          go_wp2_with fail
          refine (containsFunc_any (some x) _ cap zs _ HA.out).mono ?_
          rintro e w1 ⟨rfl, rfl⟩
          rw [HX.out]
          go_wp2_with fail
          refine (isSorted_any (some x) _ cap zs _ HA.out).mono ?_
          rintro e w1 ⟨rfl, m, rfl⟩
          rw [HS.out]
          go_wp2_with fail
          go_ret
          exact ⟨rfl, HBl.out.drewN _⟩
      · have hz' : (inc == 0) = false := by simpa using hz
        have e : b = false := by rw [HE.out, decide_eq_false hz, Bool.and_false]
        clear hq hz
        subst e
        rcases HC.out.1 with hc | hc <;>
        · go_enter Tryz.func33, Tryz.ntmps33
          go_wp2_with fail
          refine (bounded_any inc _).mono ?_
          rintro e w1 ⟨rfl, rfl⟩
          rw [HI.out]
          go_wp2_with fail
          refine (containsFunc_any (some x) _ cap zs _ HA.out).mono ?_
          rintro e w1 ⟨rfl, rfl⟩
          rw [HX.out]
          go_wp2_with fail
          refine (isSorted_any (some x) _ cap zs _ HA.out).mono ?_
          rintro e w1 ⟨rfl, m, rfl⟩
          rw [HS.out]
          go_wp2_with fail
          go_ret
          exact ⟨rfl, HBl.out.drewN _⟩
    · have hq' : ((q : Int) == 1) = false := by rw [beq_eq_false_iff_ne]; omega
      have e : b = false := by rw [HE.out, decide_eq_false (show ¬ (q : Int) = 1 by omega), Bool.false_and]
      clear hq
      subst e
      rcases HC.out.1 with hc | hc <;>
      · go_enter Tryz.func33, Tryz.ntmps33
        go_wp2_with fail
        refine (bounded_any inc _).mono ?_
        rintro e w1 ⟨rfl, rfl⟩
        rw [HI.out]
        go_wp2_with fail
        refine (containsFunc_any (some x) _ cap zs _ HA.out).mono ?_
        rintro e w1 ⟨rfl, rfl⟩
        rw [HX.out]
        go_wp2_with fail
        refine (isSorted_any (some x) _ cap zs _ HA.out).mono ?_
        rintro e w1 ⟨rfl, m, rfl⟩
        rw [HS.out]
        go_wp2_with fail
        go_ret
        exact ⟨rfl, HBl.out.drewN _⟩
  · have hinf' : (l == 4611686018427387904) = false := by simpa using hinf
    have e : b = decide (l ≤ v + inc) := by rw [← HB.out, HK.out, if_neg hinf]
    have HE := Lib.hid e
    have bv2 : 0 ≤ v ∧ v ≤ 1073741824 := by unfold infV at *; omega
    have hw9 : IntKind.i64.wrap (v + inc) = v + inc := IntWalk.i64_in _ ⟨by omega, by omega⟩
    clear e hinf bl bv bvl
    have bv3 := bv2.1
    have bv4 := bv2.2
    clear bv2
    rcases HC.out.1 with hc | hc <;>
    · go_enter Tryz.func33, Tryz.ntmps33
      go_wp2_with fail
      refine (bounded_any inc _).mono ?_
      rintro e w1 ⟨rfl, rfl⟩
      rw [HI.out]
      go_wp2_with fail
      refine (containsFunc_any (some x) _ cap zs _ HA.out).mono ?_
      rintro e w1 ⟨rfl, rfl⟩
      rw [HX.out]
      go_wp2_with fail
      refine (isSorted_any (some x) _ cap zs _ HA.out).mono ?_
      rintro e w1 ⟨rfl, m, rfl⟩
      rw [HS.out]
      go_wp2_with fail
      go_quiet (fail)
      go_wp2_with fail
      go_ret
      exact ⟨by rw [HE.out]; rfl, (HBl.out.drewN _).drewN _⟩

end Go.Proofs.YtkienpbmoilheaaGreat
