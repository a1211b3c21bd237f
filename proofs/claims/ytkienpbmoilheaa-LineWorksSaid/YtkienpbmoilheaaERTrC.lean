/- The document's Cumulative. By the verifier's side. -/
import Derived.Test.YtkienpbmoilheaaERTrARTrB
import Derived.Test.YtkienpbmoilheaaETrC
import Derived.Test.YtkienpbmoilheaaETrY
namespace Go.Proofs.Ytkienpbmoilheaa
open Go.RowKit
set_option linter.unusedSimpArgs false
set_option linter.unusedVariables false

theorem sumsL_step (fl : Int) (k : Nat) (l : List Pk) : sumsL fl (k + 1) l = sumsL fl k l ++ [sumG (bytT (k : Int)) (sel fl l)] := by
  unfold sumsL; rw [List.range_succ, List.map_append]; rfl
theorem bytW_in {l : List Pk} (hv : vcode l = 0) (fl t : Int) : bytW t (sel fl l) = sumG (bytT t) (sel fl l) := by
  unfold bytW
  have := part_bd hv fl t
  exact IntWalk.i64_in _ ⟨by omega, by omega⟩
theorem new_int (w : World) (x : Int) : ∀ j u, ([.int .i64 x] : List Value)[j]? = some u → (w.alloc (.cells #[.int .i64 x] 3)).cell? ((⟨w.heap.size, 0, none⟩ : Addr).add j) = some u := fun j u hj => by
  rcases j with _ | j
  · cases hj; exact cell_new13 rfl
  · cases hj

set_option maxRecDepth 100000 in
set_option maxHeartbeats 3200000 in
theorem rcumulative13 (a : Option Addr) (len cap : Nat) (l : List Pk) (fl tk c : Int) (hc : cumC fl tk l = c) (zs : List Int) (hz : cumL fl tk l = zs) (w : World) (h : PkR w a len cap l) :
    Calls Try.prog 202 #[.slice a len cap, .int .i64 fl, .int .i64 tk] w (GivesSums zs c w) := by
  have H := Lib.hid h
  clear h
  by_cases hv : vcode l = 0
  case neg =>
    obtain ⟨x, hx⟩ : ∃ x, vcode l = x := ⟨_, rfl⟩
    obtain rfl : c = x := by rw [← hc]; unfold cumC; rw [if_neg hv, hx]
    obtain rfl : zs = [] := by rw [← hz]; unfold cumL; rw [hc, if_neg (by rw [← hx]; exact hv)]
    rw [hx] at hv
    have HX := Lib.hid hx
    clear hx hc hz
    go_enter Try.func202, Try.ntmps202
    go_wp2_with fail
    refine (rvalidate_any a len cap l c HX.out _ H.out).mono ?_
    rintro e w1 ⟨rfl, hb1⟩
    have HB1 := Lib.hid hb1
    clear hb1
    go_wp2_with fail
    go_ret2
    exact GivesSums.none HB1.out
  by_cases hr : fl < -1 ∨ tk < 0 ∨ 2000 < tk
  · obtain rfl : c = 2 := by rw [← hc]; unfold cumC; rw [if_pos hv, if_pos hr]
    obtain rfl : zs = [] := by rw [← hz]; unfold cumL; rw [hc]; rfl
    have HV := Lib.hid hv
    clear hc hz hv
    have key : ∀ (b1 b2 b3 : Bool), decide (fl < -1) = b1 → decide (tk < 0) = b2 → decide (2000 < tk) = b3 → (b1 = true ∨ b2 = true ∨ b3 = true) → Calls Try.prog 202 #[.slice a len cap, .int .i64 fl, .int .i64 tk] w (GivesSums [] 2 w) := by
      intro b1 b2 b3 h1 h2 h3 h4
      clear hr
      cases b1
      case true =>
        go_enter Try.func202, Try.ntmps202
        go_wp2_with fail
        refine (rvalidate_any a len cap l 0 HV.out _ H.out).mono ?_
        rintro e w1 ⟨rfl, hb1⟩
        have HB1 := Lib.hid hb1
        clear hb1
        go_wp2_with fail
        go_ret2
        exact GivesSums.none HB1.out
      cases b2
      case true =>
        go_enter Try.func202, Try.ntmps202
        go_wp2_with fail
        refine (rvalidate_any a len cap l 0 HV.out _ H.out).mono ?_
        rintro e w1 ⟨rfl, hb1⟩
        have HB1 := Lib.hid hb1
        clear hb1
        go_wp2_with fail
        go_ret2
        exact GivesSums.none HB1.out
      cases b3
      case true =>
        go_enter Try.func202, Try.ntmps202
        go_wp2_with fail
        refine (rvalidate_any a len cap l 0 HV.out _ H.out).mono ?_
        rintro e w1 ⟨rfl, hb1⟩
        have HB1 := Lib.hid hb1
        clear hb1
        go_wp2_with fail
        go_ret2
        exact GivesSums.none HB1.out
      rcases h4 with h4 | h4 | h4 <;> cases h4
    exact key _ _ _ rfl rfl rfl (by simpa using hr)
  · obtain rfl : c = 0 := by rw [← hc]; unfold cumC; rw [if_pos hv, if_neg hr]
    obtain rfl : zs = sumsL fl (tk.toNat + 1) l := by rw [← hz]; unfold cumL; rw [hc]; rfl
    obtain ⟨t, rfl⟩ : ∃ t : Nat, tk = (t : Int) := ⟨tk.toNat, by omega⟩
    have hf : ¬ fl < -1 := by omega
    have ht0 : ¬ (t : Int) < 0 := by omega
    have ht1 : ¬ 2000 < (t : Int) := by omega
    have ht2 : t ≤ 2000 := by omega
    obtain ⟨i0, hi, hz0, hz1, hz2⟩ := info_parts info_int
    have HV := Lib.hid hv
    clear hc hz hv hr
    go_enter Try.func202, Try.ntmps202
    go_wp2_with fail
    refine (rvalidate_any a len cap l 0 HV.out _ H.out).mono ?_
    rintro e w1 ⟨rfl, hb1⟩
    have HB1 := Lib.hid hb1
    clear hb1
    go_wp2_with fail
    go_loopw [10, 9] (fun s10 s9 wx => ∃ k : Nat, s10 = .int .i64 k ∧ k ≤ t + 1 ∧ Hid (wx.ownsRow w.heap.size 3 1 s9 k ((sumsL fl k l).map (Value.int .i64))) ∧ Hid (Below w.heap.size w wx)) (fun s10 _ _ => t + 1 - (intOf s10).toNat)
    case atStart => exact ⟨0, by go_num, by omega, World.ownsRow_nil _ _ _ _, HB1⟩
    case round =>
      obtain ⟨k, rfl, hk, HO, HB⟩ := hrel
      obtain ⟨wk, rfl⟩ : ∃ u : World, u = wr := ⟨_, rfl⟩
      by_cases hlt : k ≤ t
      · have hlI : (k : Int) ≤ (t : Int) := by omega
        obtain ⟨v, hvv⟩ : ∃ v, sumG (bytT (k : Int)) (sel fl l) = v := ⟨_, rfl⟩
        have HN := Lib.hid (show bytW (k : Int) (sel fl l) = v from by rw [bytW_in HV.out, hvv])
        have HS := Lib.hid (show sumsL fl (k + 1) l = sumsL fl k l ++ [v] from by rw [sumsL_step, hvv])
        have hwk : w.heap.size ≤ wk.heap.size := HB.out.size
        clear hvv
        go_wp2_with fail
        refine (rbytes13 a len cap l fl (k : Int) v HN.out _ (H.out.under HB.out)).mono ?_
        rintro e w2 ⟨rfl, rfl⟩
        go_wp2_with (at_builtin; (refine wpList_append_own _ rfl _ _ 22 rfl w.heap.size 3 i0 (.int .i64 0) 1 8 Try.underlying22 hi hz0 hz1 hz2 rfl (by decide) _ k _ rfl (HO.out.alloc _) ⟨w2.heap.size, 0, none⟩ 1 1 [.int .i64 v] rfl rfl (new_int w2 v) (fun u hu => by rw [List.mem_singleton.1 hu]; rfl) (by unfold maxLen; omega) (by omega) (by simp; omega) ?_))
        intro v' w3 ho' hg' _
        have HO3 := Lib.hid (show w3.ownsRow w.heap.size 3 1 v' (k + 1) ((sumsL fl (k + 1) l).map (Value.int .i64)) from by rw [HS.out, List.map_append]; exact ho')
        have HB3 := Lib.hid ((HB.out.alloc hwk _).grown hg' (by simp; omega) (fun j hj => (HO.out.lt j hj).1))
        clear ho' hg'
        go_wp2_with fail
        go_roundw
        case rel => exact ⟨k + 1, by go_num, by omega, HO3, HB3⟩
        case measure => first | (simp [intOf]; done) | (simp [intOf]; omega)
      · obtain rfl : k = t + 1 := by omega
        have hlI : ¬ (t : Int) + 1 ≤ (t : Int) := by omega
        go_wp2_with fail
        go_ret2
        obtain ⟨a', c', hv', hr', hx'⟩ := rowZ_of_owns HO.out (by omega) (fun i hi' => by
          rw [sumsL_len] at hi'
          rw [sumsL_at fl _ l hi']
          have := part_bd HV.out fl (i : Int)
          exact ⟨by omega, by omega⟩)
        subst hv'
        exact ⟨a', t + 1, c', rfl, HB.out, hr', hx'⟩

end Go.Proofs.Ytkienpbmoilheaa
