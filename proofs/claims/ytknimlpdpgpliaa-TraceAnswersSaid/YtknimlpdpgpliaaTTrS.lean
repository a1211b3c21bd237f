/- Cumulative of package trace, of whatever arguments; the chapter's example. By the verifier's side. -/
import Derived.Test.YtknimlpdpgpliaaTTrR
import Derived.Test.YtknimlpdpgpliaaTTrD
namespace Go.Proofs.Ytknimlpdpgpliaa
open Go.RowKit Go.Shelf
set_option linter.unusedSimpArgs false
set_option linter.unusedVariables false

/-- The code of Cumulative's error. -/
def cumC (fl tk : Int) (l : List Pk) : Int := if vcode l = 0 then (if fl < -1 ∨ tk < 0 ∨ 2000 < tk then 2 else 0) else vcode l
/-- The sums. -/
def sumsL (fl : Int) (N : Nat) (l : List Pk) : List Int := (List.range N).map (fun (k : Nat) => sumG (bytT (k : Int)) (sel fl l))
/-- What Cumulative lists. -/
def cumL (fl tk : Int) (l : List Pk) : List Int := if cumC fl tk l = 0 then sumsL fl (tk.toNat + 1) l else []
theorem sumsL_len (fl : Int) (N : Nat) (l : List Pk) : (sumsL fl N l).length = N := by unfold sumsL; simp
theorem sumsL_at (fl : Int) (N : Nat) (l : List Pk) {k : Nat} (hk : k < N) : (sumsL fl N l).getD k 0 = sumG (bytT (k : Int)) (sel fl l) := by
  unfold sumsL
  rw [List.getD_eq_getElem?_getD, List.getElem?_map, List.getElem?_range hk]; rfl
/-- Sums and an error are handed back. -/
def GivesSums (zs : List Int) (c : Int) (w : World) (e : Ending) (w' : World) : Prop :=
  ∃ a n cap, e = .returned (.tuple #[.slice a n cap, .int .i64 c]) ∧ Below w.heap.size w w' ∧ RowZ w' a n cap zs ∧ ∀ x, a = some x → w.heap.size ≤ x.block
theorem GivesSums.none {c : Int} {w w' : World} (hb : Below w.heap.size w w') : GivesSums [] c w (.returned (.tuple #[.slice none 0 0, .int .i64 c])) w' :=
  ⟨Option.none, 0, 0, rfl, hb, ⟨rfl, Nat.le_refl _, by omega, by omega, fun i hi => absurd hi (Nat.not_lt_zero _), fun i hi => absurd hi (Nat.not_lt_zero _)⟩, fun x hx => by cases hx⟩
theorem SumB.row {W : World} {M N : Nat} {fl : Int} {l : List Pk} (h : SumB W M N (fun k => sumG (bytT (k : Int)) (sel fl l))) (hN : N ≤ 4096) (hv : vcode l = 0) : RowZ W (some ⟨M, 0, none⟩) N N (sumsL fl N l) := by
  have hk := vcode_ok hv
  have hys : ∀ q ∈ sel fl l, okP q = true := fun q hq => hk.2.1 q (List.mem_filter.1 hq).1
  have hyl : (sel fl l).length ≤ 60 := Nat.le_trans (sel_le fl l) hk.1
  refine ⟨sumsL_len _ _ _, Nat.le_refl _, by omega, by omega, fun i hi => ⟨_, rfl, ?_⟩, fun i hi => ?_⟩
  · have ea : ((⟨M, 0, none⟩ : Addr).add i) = ⟨M, i, none⟩ := by unfold Addr.add; split <;> simp_all
    rw [ea, sumsL_at fl N l hi]; exact h.cell hi
  · rw [sumsL_at fl N l hi]
    have := byt_bd hys hyl (i : Int)
    exact ⟨by omega, by omega⟩

set_option maxRecDepth 100000 in
set_option maxHeartbeats 1600000 in
/-- Cumulative, of whatever arguments. -/
theorem cumulative13 (a : Option Addr) (len cap : Nat) (l : List Pk) (fl tk c : Int) (hc : cumC fl tk l = c) (zs : List Int) (hz : cumL fl tk l = zs) (w : World) (h : PkR w a len cap l) :
    Calls Try.prog 42 #[.slice a len cap, .int .i64 fl, .int .i64 tk] w (GivesSums zs c w) := by
  by_cases hv : vcode l = 0
  · by_cases hr : fl < -1 ∨ tk < 0 ∨ 2000 < tk
    · obtain rfl : c = 2 := by rw [← hc]; unfold cumC; rw [if_pos hv, if_pos hr]
      obtain rfl : zs = [] := by rw [← hz]; unfold cumL; rw [hc]; rfl
      have H := Lib.hid (And.intro h hv)
      have hb1 : Below w.heap.size w (w.alloc (.cells #[.int .i64 tk] 3)) := (Below.refl _ _).alloc (Nat.le_refl _) _
      have HB := Lib.hid hb1
      have hcv := validate_any a len cap l 0 hv (w.alloc (.cells #[.int .i64 tk] 3)) (h.under hb1)
      clear h hv hc hz
      by_cases h1 : fl < -1
      · clear hr
        go_enter Try.func42, Try.ntmps42
        go_wp2_with fail
        refine hcv.mono ?_
        clear hcv
        rintro e w1 ⟨rfl, hb⟩
        have HB2 := Lib.hid (HB.out.trans (hb.mono HB.out.size))
        clear hb hb1
        go_wp2_with fail
        go_ret2
        exact GivesSums.none HB2.out
      · have ho : (decide (tk < 0) || decide (2000 < tk)) = true := by
          have hr' : tk < 0 ∨ 2000 < tk := by omega
          simp only [Bool.or_eq_true, decide_eq_true_eq]; exact hr'
        clear hr
        go_enter Try.func42, Try.ntmps42
        go_wp2_with fail
        refine hcv.mono ?_
        clear hcv
        rintro e w1 ⟨rfl, hb⟩
        have HB2 := Lib.hid (HB.out.trans (hb.mono HB.out.size))
        have cT : w1.cell? ⟨w.heap.size, 0, none⟩ = some (.int .i64 tk) := (hb.cell (p := ⟨w.heap.size, 0, none⟩) (by simp)).trans (cell_new13 rfl)
        clear hb hb1
        go_wp2_with (go_at_call 87; with_reducible refine (outside13 tk 0 2000 true ho _).mono ?_; rintro e w1 ⟨rfl, rfl⟩)
        go_ret2
        exact GivesSums.none HB2.out
    · obtain rfl : c = 0 := by rw [← hc]; unfold cumC; rw [if_pos hv, if_neg hr]
      obtain rfl : zs = sumsL fl (tk.toNat + 1) l := by rw [← hz]; unfold cumL; rw [hc]; rfl
      obtain ⟨t, rfl⟩ : ∃ t : Nat, tk = (t : Int) := ⟨tk.toNat, by omega⟩
      refine ((callsIn_wide (n := 8)).1 (cum_in a len cap l fl t (t + 1) rfl (by omega) (by omega) w h hv)).mono ?_
      rintro e w' ⟨cs, rfl, hb, hle, hs⟩
      refine ⟨_, _, _, rfl, hb, ?_, fun x hx => by cases hx; exact hle⟩
      rw [Int.toNat_natCast]
      exact hs.row (by omega) hv
  · obtain rfl : c = vcode l := by rw [← hc]; unfold cumC; rw [if_neg hv]
    obtain rfl : zs = [] := by rw [← hz]; unfold cumL; rw [hc, if_neg hv]
    have hb1 : Below w.heap.size w (w.alloc (.cells #[.int .i64 tk] 3)) := (Below.refl _ _).alloc (Nat.le_refl _) _
    have HB := Lib.hid hb1
    obtain ⟨v, hvv⟩ : ∃ v, vcode l = v := ⟨_, rfl⟩
    have hcv := validate_any a len cap l v hvv (w.alloc (.cells #[.int .i64 tk] 3)) (h.under hb1)
    rw [hvv] at hv ⊢
    have hv2 : (v == 0) = false := by simp [hv]
    clear h hc hz hvv
    go_enter Try.func42, Try.ntmps42
    go_wp2_with fail
    refine hcv.mono ?_
    clear hcv
    rintro e w1 ⟨rfl, hb⟩
    have HB2 := Lib.hid (HB.out.trans (hb.mono HB.out.size))
    clear hb hb1
    go_wp2_with fail
    go_ret2
    exact GivesSums.none HB2.out
end Go.Proofs.Ytknimlpdpgpliaa
