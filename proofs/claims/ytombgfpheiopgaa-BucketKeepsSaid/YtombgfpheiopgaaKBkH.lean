/- What BucketKeeps calls besides: sums of sizes in a row; lists of numbers that are drawn. By the verifier's side. -/
import Derived.Test.YtombgfpheiopgaaKBkG
import Derived.Test.YtombgfpheiopgaaKBkS
namespace Go.Proofs.Ytombgfpheiopgaa
open Go.RowKit
set_option linter.unusedSimpArgs false
set_option linter.unusedVariables false

set_option maxRecDepth 100000 in
set_option maxHeartbeats 3200000 in
theorem sums_any (a1 : Option Addr) (n1 cap1 : Nat) (zs : List Int) (p : Nat) (inc : Int) (g : Good zs p inc) (xs : List Int) (hs : SizesX xs) (hl : xs.length ≤ 381) (b : Bool)
    (hb : b = true ↔ ∀ i j, i ≤ j → j < xs.length → cumX xs (j + 1) - cumX xs i ≤ atC zs p inc (j - i + 1)) (a : Option Addr) (n cap : Nat) (w : World) (h1 : RowZ w a1 n1 cap1 zs) (h : RowZ w a n cap xs) :
    Calls Try.prog 85 #[curV a1 n1 cap1 p inc, .slice a n cap] w (Says (.bool b) w) := by
  have hlen := h.len
  have hsm := h.sm
  obtain ⟨w0, hw⟩ : ∃ w', w.alloc (.cells #[.slice a1 n1 cap1, .int .i64 p, .int .i64 inc] 24) = w' := ⟨_, rfl⟩
  have hz : Below w.heap.size w w0 := by rw [← hw]; exact below_box _
  have X0 := Lib.hid (show Bx w0 w.heap.size a1 n1 cap1 p inc zs by rw [← hw]; exact Bx.new h1)
  have L0 := Lib.hid (h.under hz)
  have HB0 := Lib.hid hz
  have HW := Lib.hid hw
  have HG := Lib.hid g
  have HS := Lib.hid (And.intro hs hl)
  have HB := Lib.hid hb
  clear h1 h hz hw g hs hb
  go_enter Try.func85, Try.ntmps85
  go_upto_region 1 with fail
  rw [HW.out]
  clear HW
  go_wp2_with fail
  go_loopw [10] (fun s10 wx => ∃ i : Nat, s10 = .int .i64 i ∧ i ≤ n ∧ Hid (Below w0.heap.size w0 wx) ∧ Hid (∀ i' j, i' < i → i' ≤ j → j < n → cumX xs (j + 1) - cumX xs i' ≤ atC zs p inc (j - i' + 1))) (fun s10 _ => n - (intOf s10).toNat)
  case atStart => exact ⟨0, by go_num, by omega, Below.refl _ _, fun i' j h => absurd h (Nat.not_lt_zero _)⟩
  case round =>
    obtain ⟨i, rfl, hi, HW, HA⟩ := hrel
    obtain ⟨w1, rfl⟩ : ∃ u : World, u = wr := ⟨_, rfl⟩
    by_cases hin : i < n
    · go_wp2_with fail
      go_loopw [6, 7] (fun s6 s7 wx => ∃ (j : Nat) (t : Int), s7 = .int .i64 j ∧ s6 = .int .i64 t ∧ i ≤ j ∧ j ≤ n ∧ Hid (cumX xs j - cumX xs i = t) ∧ Hid (Below w0.heap.size w0 wx) ∧ Hid (∀ j', i ≤ j' → j' < j → cumX xs (j' + 1) - cumX xs i ≤ atC zs p inc (j' - i + 1))) (fun _ s7 _ => n - (intOf s7).toNat)
      case atStart => exact ⟨i, 0, by go_num, by go_num, by omega, by omega, by show cumX xs i - cumX xs i = 0; omega, HW, fun j' h1 h2 => by omega⟩
      case round =>
        obtain ⟨j, t, rfl, rfl, hij, hj, HT, HW2, HJ⟩ := hrel
        obtain ⟨w2, rfl⟩ : ∃ u : World, u = wr := ⟨_, rfl⟩
        have L2 := Lib.hid (L0.out.under HW2.out)
        have X2 := Lib.hid (X0.out.under HW2.out)
        by_cases hjn : j < n
        · obtain ⟨ad, rfl, hc0⟩ := L2.out.cell j hjn
          obtain ⟨s, hs⟩ : ∃ s, xs.getD j 0 = s := ⟨_, rfl⟩
          rw [hs] at hc0
          have hsz := HS.out.1 j (by omega)
          rw [hs] at hsz
          obtain ⟨hs0, hs1⟩ := hsz
          have hup := cum_up HS.out.1 i (j - i) (by omega)
          rw [show i + (j - i) = j by omega] at hup
          have hcb := cum_bd HS.out.1 j (by omega)
          have hcb2 := cum_bd HS.out.1 i (by omega)
          have htb : 0 ≤ t ∧ t ≤ 571500 := by have := HT.out; omega
          obtain ⟨ht0, ht1⟩ := htb
          obtain ⟨T, hT⟩ : ∃ T, t + s = T := ⟨_, rfl⟩
          have HT2 := Lib.hid (show cumX xs (j + 1) - cumX xs i = T by
            show cumX xs j + xs.getD j 0 - cumX xs i = T
            rw [hs]; have := HT.out; omega)
          have wT : IntKind.i64.wrap T = T := IntWalk.i64_in _ ⟨by omega, by omega⟩
          have hTb : 0 ≤ T ∧ T ≤ 573000 := by omega
          obtain ⟨hT0, hT1⟩ := hTb
          obtain ⟨d, hd⟩ : ∃ d : Nat, j - i + 1 = d := ⟨_, rfl⟩
          have hdi : (j : Int) - (i : Int) + 1 = (d : Int) := by omega
          have wd : IntKind.i64.wrap (d : Int) = (d : Int) := IntWalk.i64_in _ ⟨by omega, by omega⟩
          have we : IntKind.i64.wrap ((j : Int) - (i : Int)) = (j : Int) - (i : Int) := IntWalk.i64_in _ ⟨by omega, by omega⟩
          have hd4 : d ≤ 4194304 := by omega
          obtain ⟨v, hv⟩ : ∃ v, atC zs p inc d = v := ⟨_, rfl⟩
          have HV := Lib.hid (And.intro hv hd4)
          have HD := Lib.hid hd
          obtain ⟨c0, c1, c2, c3, c4, c5⟩ := X2.out.box
          clear hs hup hcb hcb2 hv hd4 hd HW
          go_wp2_with fail
          clear c0 c1 c2 c3 c4 c5
          with_reducible refine (rat_at a1 n1 cap1 zs p inc HG.out (d : Int) d rfl HV.out.2 v HV.out.1 _ X2.out.row).mono ?_
          rintro e w3 ⟨rfl, hb⟩
          have HW3 := Lib.hid (HW2.out.trans (hb.mono HW2.out.size))
          clear hb
          by_cases hgt : v < T
          · have hg2 : decide (v < T) = true := decide_eq_true hgt
            have HF := Lib.hid (show b = false by
              cases hbb : b with
              | false => rfl
              | true =>
                have := (HB.out.1 hbb) i j hij (by omega)
                rw [HT2.out, HD.out, HV.out.1] at this
                omega)
            go_wp2_with fail
            go_ret
            exact ⟨by rw [HF.out]; rfl, HB0.out.trans (HW3.out.mono HB0.out.size)⟩
          · have hg2 : decide (v < T) = false := decide_eq_false hgt
            have HJ2 := Lib.hid (show ∀ j', i ≤ j' → j' < j + 1 → cumX xs (j' + 1) - cumX xs i ≤ atC zs p inc (j' - i + 1) from fun j' e1 e2 => by
              by_cases e : j' = j
              · subst e; rw [HT2.out, HD.out, HV.out.1]; omega
              · exact HJ.out j' e1 (by omega))
            clear HJ HT
            go_wp2_with fail
            go_roundw
            case rel => exact ⟨j + 1, T, by go_num, rfl, by omega, by omega, HT2, HW3, HJ2⟩
            case measure => simp [intOf]; omega
        · obtain rfl : j = n := by omega
          have HA2 := Lib.hid (show ∀ i' j', i' < i + 1 → i' ≤ j' → j' < j → cumX xs (j' + 1) - cumX xs i' ≤ atC zs p inc (j' - i' + 1) from fun i' j' e1 e2 e3 => by
            by_cases e : i' = i
            · subst e; exact HJ.out j' e2 e3
            · exact HA.out i' j' (by omega) e2 e3)
          clear HJ HA HT
          go_wp2_with fail
          go_roundw
          case rel => exact ⟨i + 1, by go_num, by omega, HW2, HA2⟩
          case measure => simp [intOf]; omega
    · obtain rfl : i = n := by omega
      have HF := Lib.hid (HB.out.2 (fun i' j e1 e2 => HA.out i' j (by omega) e1 (by omega)))
      go_wp2_with fail
      go_ret
      exact ⟨by rw [HF.out]; rfl, HB0.out.trans (HW.out.mono HB0.out.size)⟩

/-! ## Lists that are drawn -/

/-- A block of n numbers, each with the property. -/
structure Lst (P : Int → Prop) (g n : Nat) (u : World) : Prop where
  cell : ∀ i, i < n → ∃ z, u.cell? ⟨g, i, none⟩ = some (.int .i64 z) ∧ P z
  free : ∀ i, i < n → u.frozen? ⟨g, i, none⟩ = false
theorem Lst.apart {P : Int → Prop} {g n b : Nat} {u v : World} (h : Lst P g n u) (ha : Apart b u v) (hg : g ≠ b) : Lst P g n v := by
  obtain ⟨h1, h2⟩ := acell ha
  refine ⟨fun i hi => ?_, fun i hi => ?_⟩
  · obtain ⟨z, hc, hp⟩ := h.cell i hi
    exact ⟨z, (h1 g i (lt_of_cell hc) hg).trans hc, hp⟩
  · obtain ⟨z, hc, hp⟩ := h.cell i hi
    exact (h2 g i (lt_of_cell hc) hg).trans (h.free i hi)
theorem Lst.under {P : Int → Prop} {g n : Nat} {u v : World} (h : Lst P g n u) (hb : Below u.heap.size u v) : Lst P g n v := by
  obtain ⟨h1, h2⟩ := bcell hb
  refine ⟨fun i hi => ?_, fun i hi => ?_⟩
  · obtain ⟨z, hc, hp⟩ := h.cell i hi
    exact ⟨z, (h1 g i (lt_of_cell hc)).trans hc, hp⟩
  · obtain ⟨z, hc, hp⟩ := h.cell i hi
    exact (h2 g i (lt_of_cell hc)).trans (h.free i hi)
theorem Lst.set {P : Int → Prop} {g n k : Nat} {u : World} (h : Lst P g n u) (hk : k < n) {z : Int} (hz : P z) : Lst P g n (u.setCell ⟨g, k, none⟩ (.int .i64 z)) := by
  refine ⟨fun i hi => ?_, fun i hi => (World.frozen?_setCell _ _ _ _).trans (h.free i hi)⟩
  by_cases e : i = k
  · subst e
    obtain ⟨y, hc, hp⟩ := h.cell i hi
    exact ⟨z, World.cell?_setCell_same _ _ _ hc, hz⟩
  · obtain ⟨y, hc, hp⟩ := h.cell i hi
    exact ⟨y, (World.cell?_setCell_other _ _ _ _ (fun he => e (by cases he; rfl))).trans hc, hp⟩
theorem Lst.make {P : Int → Prop} (w : World) (n : Nat) (h0 : P 0) : Lst P w.heap.size n (w.alloc (.cells (madeCells #[.int .i64 0] n) 3)) :=
  ⟨fun i hi => ⟨0, made_cell w n i hi, h0⟩, fun i hi => made_frozen w n i⟩
theorem Lst.list {P : Int → Prop} {g : Nat} {u : World} : ∀ {n : Nat}, Lst P g n u → ∃ xs : List Int, xs.length = n ∧ ∀ i, i < n → u.cell? ⟨g, i, none⟩ = some (.int .i64 (xs.getD i 0)) ∧ P (xs.getD i 0)
  | 0, _ => ⟨[], rfl, fun i hi => absurd hi (Nat.not_lt_zero _)⟩
  | n + 1, h => by
    obtain ⟨xs, hl, hx⟩ := Lst.list (n := n) (u := u) ⟨fun i hi => h.cell i (by omega), fun i hi => h.free i (by omega)⟩
    obtain ⟨z, hc, hp⟩ := h.cell n (by omega)
    refine ⟨xs ++ [z], by simp [hl], fun i hi => ?_⟩
    by_cases e : i = n
    · subst e
      have : (xs ++ [z]).getD i 0 = z := by simp [List.getD, ← hl]
      rw [this]; exact ⟨hc, hp⟩
    · have : (xs ++ [z]).getD i 0 = xs.getD i 0 := by simp [List.getD, List.getElem?_append_left (show i < xs.length by omega)]
      rw [this]; exact hx i (by omega)
theorem Lst.row {P : Int → Prop} {g n : Nat} {u : World} (h : Lst P g n u) (hn : n ≤ 100000) (hP : ∀ z, P z → In64 z) : ∃ xs : List Int, xs.length = n ∧ (∀ i, i < n → P (xs.getD i 0)) ∧ RowZ u (some ⟨g, 0, none⟩) n n xs := by
  obtain ⟨xs, hl, hx⟩ := h.list
  refine ⟨xs, hl, fun i hi => (hx i hi).2, ⟨hl, Nat.le_refl _, by omega, by omega, fun i hi => ⟨_, rfl, ?_⟩, fun i hi => hP _ (hx i hi).2⟩⟩
  have ea : ((⟨g, 0, none⟩ : Addr).add i) = ⟨g, i, none⟩ := by unfold Addr.add; split <;> simp_all
  rw [ea]; exact (hx i hi).1

theorem Bk4.apart {w w' : World} {b p : Nat} {bn bd rn rd : Int} (h : Bk4 w p bn bd rn rd) (ha : Apart b w w') (hp : p ≠ b) : Bk4 w' p bn bd rn rd := by
  obtain ⟨h1, _⟩ := acell ha
  have l := h.lt
  exact ⟨(h1 p 0 l hp).trans h.c0, (h1 p 1 l hp).trans h.c1, (h1 p 2 l hp).trans h.c2, (h1 p 3 l hp).trans h.c3⟩
theorem Bk4.other {w : World} {p q : Nat} {bn bd rn rd : Int} (h : Bk4 w p bn bd rn rd) (hq : p ≠ q) (i : Nat) (v : Value) : Bk4 (w.setCell ⟨q, i, none⟩ v) p bn bd rn rd := by
  have hb : (w.setCell ⟨q, i, none⟩ v).heap[p]? = w.heap[p]? := Below.heap_setCell _ _ _ _ hq
  have hc : ∀ j, (w.setCell ⟨q, i, none⟩ v).cell? ⟨p, j, none⟩ = w.cell? ⟨p, j, none⟩ := fun j => World.cell?_of_block (w := w) (a := ⟨p, j, none⟩) hb
  exact ⟨(hc 0).trans h.c0, (hc 1).trans h.c1, (hc 2).trans h.c2, (hc 3).trans h.c3⟩

/-- A drawn fraction: its terms, and that it is one. -/
theorem frac_nat {x y t m : Int} (h : 0 ≤ x ∧ x ≤ t ∧ 1 ≤ y ∧ y ≤ m ∧ Nat.gcd x.natAbs y.natAbs = 1) (ht : t ≤ 1073741824) (hm : m ≤ 1073741824) : ∃ X Y : Nat, x = X ∧ y = Y ∧ okB X Y = true ∧ (X : Int) ≤ t ∧ 1 ≤ Y ∧ (Y : Int) ≤ m := by
  obtain ⟨h1, h2, h3, h4, h5⟩ := h
  obtain ⟨X, rfl⟩ := Int.eq_ofNat_of_zero_le h1
  obtain ⟨Y, rfl⟩ := Int.eq_ofNat_of_zero_le (show 0 ≤ y by omega)
  exact ⟨X, Y, rfl, rfl, (okB_iff _ _).2 ⟨(okF_iff _ _).2 ⟨by omega, by omega, by omega, by omega, h5⟩, by omega⟩, h2, by omega, h4⟩

end Go.Proofs.Ytombgfpheiopgaa
