/- Package line: the fault of a run, Run. By the verifier's side. -/
import Derived.Test.YtkienpbmoilheaaELnELnF
import Derived.Test.YtkienpbmoilheaaETrC
import Derived.Test.YtkienpbmoilheaaETrPTrQ
namespace Go.Proofs.Ytkienpbmoilheaa
open Go.RowKit
set_option linter.unusedSimpArgs false
set_option linter.unusedVariables false

/-- The first error of a run. -/
def lnBad (C m T : Int) (p : List Pk) : Prop := C < 1 ∨ 4000 < C ∨ m < 1 ∨ 6 < m ∨ T < 0 ∨ 2000 < T ∨ ∃ i, i < p.length ∧ m ≤ (p.getD i default).f
open Classical in
noncomputable def lnCode (C m T : Int) (p : List Pk) : Int := if vcode p = 0 then (if lnBad C m T p then 2 else 0) else vcode p

set_option maxHeartbeats 400000 in
theorem outside16 (n lo hi : Int) (c : Bool) (hc : (decide (n < lo) || decide (hi < n)) = c) (w : World) :
    Calls Try.prog 200 #[.int .i64 n, .int .i64 lo, .int .i64 hi] w fun e w' => e = .returned (.bool c) ∧ w' = w := by
  by_cases h1 : n < lo
  · have hc' : c = true := by rw [← hc]; simp [h1]
    subst hc'
    clear hc
    go_enter Try.func200, Try.ntmps200
    go_wp2_with fail
    go_ret
    exact ⟨rfl, rfl⟩
  · by_cases h2 : hi < n
    · have hc' : c = true := by rw [← hc]; simp [h2]
      subst hc'
      clear hc
      go_enter Try.func200, Try.ntmps200
      go_wp2_with fail
      go_ret
      exact ⟨rfl, rfl⟩
    · have hc' : c = false := by rw [← hc]; simp [h1, h2]
      subst hc'
      clear hc
      go_enter Try.func200, Try.ntmps200
      go_wp2_with fail
      go_ret
      exact ⟨rfl, rfl⟩

set_option maxRecDepth 100000 in
set_option maxHeartbeats 3200000 in
theorem lfault16 (aP : Option Addr) (nP cP : Nat) (lp : List Pk) (C m T : Int) (c : Int) (hc : lnCode C m T lp = c) (w : World) (hP : PkR w aP nP cP lp) :
    Calls Try.prog 190 #[.int .i64 C, .int .i64 m, .slice aP nP cP, .int .i64 T] w (Says (.int .i64 c) w) := by
  have hsm := hP.sm
  have H := Lib.hid hP
  have HC := Lib.hid hc
  have HL := Lib.hid hP.len
  obtain ⟨v, hv⟩ : ∃ v, vcode lp = v := ⟨_, rfl⟩
  have HV := Lib.hid hv
  obtain ⟨o1, ho1⟩ : ∃ o, (decide (C < 1) || decide (4000 < C)) = o := ⟨_, rfl⟩
  obtain ⟨o2, ho2⟩ : ∃ o, (decide (m < 1) || decide (6 < m)) = o := ⟨_, rfl⟩
  obtain ⟨o3, ho3⟩ : ∃ o, (decide (T < 0) || decide (2000 < T)) = o := ⟨_, rfl⟩
  have HO := Lib.hid (And.intro ho1 (And.intro ho2 ho3))
  clear hP hc hv ho1 ho2 ho3
  go_enter Try.func190, Try.ntmps190
  go_wp2_with fail
  refine (validate_any aP nP cP lp v HV.out _ H.out).mono ?_
  rintro e w1 ⟨rfl, hb⟩
  have HB := Lib.hid hb
  clear hb
  by_cases hv0 : v = 0
  · subst hv0
    by_cases hb : o1 = true ∨ o2 = true ∨ o3 = true
    · have HE := Lib.hid (show c = 2 from by
        rw [← HC.out]
        unfold lnCode
        rw [if_pos HV.out, if_pos]
        unfold lnBad
        have h1 := HO.out
        rcases hb with rfl | rfl | rfl
        · have := h1.1
          simp only [Bool.or_eq_true, decide_eq_true_eq] at this
          omega
        · have := h1.2.1
          simp only [Bool.or_eq_true, decide_eq_true_eq] at this
          omega
        · have := h1.2.2
          simp only [Bool.or_eq_true, decide_eq_true_eq] at this
          omega)
      cases o1 with
      | true =>
        go_wp2_with fail
        refine (outside16 C 1 4000 true HO.out.1 _).mono ?_
        rintro e w2 ⟨rfl, rfl⟩
        go_wp2_with fail
        go_ret
        exact ⟨by rw [HE.out]; rfl, HB.out⟩
      | false =>
        cases o2 with
        | true =>
          go_wp2_with fail
          refine (outside16 C 1 4000 false HO.out.1 _).mono ?_
          rintro e w2 ⟨rfl, rfl⟩
          go_wp2_with fail
          refine (outside16 m 1 6 true HO.out.2.1 _).mono ?_
          rintro e w2 ⟨rfl, rfl⟩
          go_wp2_with fail
          go_ret
          exact ⟨by rw [HE.out]; rfl, HB.out⟩
        | false =>
          obtain rfl : o3 = true := by
            rcases hb with h | h | h
            · cases h
            · cases h
            · exact h
          go_wp2_with fail
          refine (outside16 C 1 4000 false HO.out.1 _).mono ?_
          rintro e w2 ⟨rfl, rfl⟩
          go_wp2_with fail
          refine (outside16 m 1 6 false HO.out.2.1 _).mono ?_
          rintro e w2 ⟨rfl, rfl⟩
          go_wp2_with fail
          refine (outside16 T 0 2000 true HO.out.2.2 _).mono ?_
          rintro e w2 ⟨rfl, rfl⟩
          go_wp2_with fail
          go_ret
          exact ⟨by rw [HE.out]; rfl, HB.out⟩
    · obtain rfl : o1 = false := by cases o1 <;> simp_all
      obtain rfl : o2 = false := by cases o2 <;> simp_all
      obtain rfl : o3 = false := by cases o3 <;> simp_all
      clear hb
      have HR := Lib.hid (show ¬ (C < 1 ∨ 4000 < C ∨ m < 1 ∨ 6 < m ∨ T < 0 ∨ 2000 < T) from by
        have h1 := HO.out
        simp only [Bool.or_eq_false_iff, decide_eq_false_iff_not] at h1
        omega)
      go_wp2_with fail
      refine (outside16 C 1 4000 false HO.out.1 _).mono ?_
      rintro e w2 ⟨rfl, rfl⟩
      go_wp2_with fail
      refine (outside16 m 1 6 false HO.out.2.1 _).mono ?_
      rintro e w2 ⟨rfl, rfl⟩
      go_wp2_with fail
      refine (outside16 T 0 2000 false HO.out.2.2 _).mono ?_
      rintro e w2 ⟨rfl, rfl⟩
      go_wp2_with fail
      go_loopw [29] (fun vi wx => ∃ k : Nat, vi = .int .i64 k ∧ k ≤ nP ∧ Hid (∀ i, i < k → (lp.getD i default).f < m) ∧ Hid (Below w.heap.size w wx)) (fun vi _ => nP - (intOf vi).toNat)
      case atStart => exact ⟨0, by go_num, Nat.zero_le _, Lib.hid (fun i hi => absurd hi (Nat.not_lt_zero i)), HB⟩
      case round =>
        obtain ⟨k, rfl, hk, HW, HB1⟩ := hrel
        obtain ⟨wk, rfl⟩ : ∃ u : World, u = wr := ⟨_, rfl⟩
        by_cases hlt : k < nP
        · have hlI : (k : Int) < (nP : Int) := by omega
          obtain ⟨B, off, q, ha, hcs, hq, hbd⟩ := (H.out.under HB1.out).at hlt
          obtain ⟨c0, c1, c2⟩ := hcs k q hq
          have HQ := Lib.hid (show lp.getD k default = q from by rw [List.getD_eq_getElem?_getD, hq]; rfl)
          clear hcs hq hbd
          subst ha
          go_upto_region 9 with fail
          obtain ⟨u, hu⟩ : ∃ u : World, wk.alloc (.cells #[.int .i64 q.f, .int .i64 q.t, .int .i64 q.s] 103) = u := ⟨_, rfl⟩
          obtain ⟨hb, n0, n1, n2⟩ := box_pk16 hu
          have HU := Lib.hid (HB1.out.trans (hb.mono HB1.out.size))
          rw [hu]
          clear hu hb c0 c1 c2 n1 n2
          by_cases hx : m ≤ q.f
          · have hx2 : q.f ≥ m := hx
            have HE := Lib.hid (show c = 2 from by
              rw [← HC.out]
              unfold lnCode
              rw [if_pos HV.out, if_pos]
              exact .inr (.inr (.inr (.inr (.inr (.inr ⟨k, by rw [HL.out]; exact hlt, by rw [HQ.out]; exact hx⟩))))))
            go_wp2_with fail
            go_ret
            exact ⟨by rw [HE.out]; rfl, HU.out⟩
          · have hx2 : ¬ q.f ≥ m := hx
            have HN := Lib.hid (show ∀ i, i < k + 1 → (lp.getD i default).f < m from fun i hi => by
              by_cases e : i = k
              · rw [e, HQ.out]; omega
              · exact HW.out i (by omega))
            go_wp2_with fail
            go_roundw
            case rel => exact ⟨k + 1, by go_num, by omega, HN, HU⟩
            case measure => first | (simp [intOf]; done) | (simp [intOf]; omega)
        · obtain rfl : k = nP := by omega
          have hkI : ¬ (k : Int) < (k : Int) := by omega
          have HE := Lib.hid (show c = 0 from by
            rw [← HC.out]
            unfold lnCode
            rw [if_pos HV.out, if_neg]
            intro hbad
            rcases hbad with h | h | h | h | h | h | ⟨i, hi, h⟩
            all_goals first | (exact HR.out (by omega)) | skip
            have := HW.out i (by rw [HL.out] at hi; exact hi)
            omega)
          go_wp2_with fail
          go_ret
          exact ⟨by rw [HE.out]; rfl, HB1.out⟩
  · have hv1 : (v == 0) = false := by simp [hv0]
    have hv2 : (v != 0) = true := by simp [hv0]
    have HE := Lib.hid (show c = v from by
      rw [← HC.out]
      unfold lnCode
      rw [if_neg (by rw [HV.out]; exact hv0), HV.out])
    go_wp2_with fail
    go_ret
    exact ⟨by rw [HE.out]; rfl, HB.out⟩
theorem RunIs.store {w w2 wx : World} {nP m N : Nat} {Dn : Nat → Int} {Sn : Nat → Nat → Int} {v : Value} (h : RunIs w2 nP m N Dn Sn v wx) {Q : Nat} (h1 : w.heap.size ≤ Q) (h2 : Q < w2.heap.size) (hb : Below w.heap.size w w2) (x y : Value) : RunIs w nP m N Dn Sn v ((wx.setCell ⟨Q, 0, none⟩ x).setCell ⟨Q, 1, none⟩ y) := by
  obtain ⟨D, S, Z, hv, a1, a2, a3, a4, a5, a6, a7⟩ := h
  refine ⟨D, S, Z, hv, by omega, by omega, by omega, a4.imp id fun x => (x.other (by omega) _ _).other (by omega) _ _, (a5.other (by omega) _ _).other (by omega) _ _, fun c hc => ((a6 c hc).other (by omega) _ _).other (by omega) _ _, ((hb.trans (a7.mono hb.size)).setCell h1 _).setCell h1 _⟩
theorem lnCode_ok {C m T : Int} {lp : List Pk} (h : lnCode C m T lp = 0) : vcode lp = 0 ∧ 1 ≤ C ∧ C ≤ 4000 ∧ 1 ≤ m ∧ m ≤ 6 ∧ 0 ≤ T ∧ T ≤ 2000 ∧ ∀ i, i < lp.length → (lp.getD i default).f < m := by
  unfold lnCode at h
  split at h
  · rename_i hv
    split at h
    · cases h
    · rename_i hb
      unfold lnBad at hb
      simp only [not_or] at hb
      obtain ⟨h1, h2, h3, h4, h5, h6, h7⟩ := hb
      refine ⟨hv, by omega, by omega, by omega, by omega, by omega, by omega, fun i hi => ?_⟩
      exact Int.lt_of_not_ge fun hge => h7 ⟨i, hi, hge⟩
  · rename_i hv; exact absurd h hv
theorem trc_v {lp : List Pk} (h : vcode lp = 0) : Trc lp := by
  obtain ⟨h1, h2, h3⟩ := vcode_ok h
  exact trc_of h1 h2 h3

set_option maxRecDepth 100000 in
set_option maxHeartbeats 3200000 in
theorem lrun16 (aP : Option Addr) (nP cP : Nat) (lp : List Pk) (C : Int) (m T : Nat) (hc : lnCode C m T lp = 0) (w : World) (hP : PkR w aP nP cP lp) :
    Calls Try.prog 80 #[.int .i64 C, .int .i64 m, .slice aP nP cP, .int .i64 T] w fun e w' => ∃ v, e = .returned (.tuple #[v, .int .i64 0]) ∧ RunIs w nP m (T + 1) (lnDone C lp T) (fun c t => sentF lp (c : Int) (lineS C lp t)) v w' := by
  obtain ⟨hv, k1, k2, k3, k4, k5, k6, k7⟩ := lnCode_ok hc
  have HP := Lib.hid hP
  have HC := Lib.hid hc
  have HF := Lib.hid (show ∀ i, i < nP → (lp.getD i default).f < (m : Int) from fun i hi => k7 i (by rw [hP.len]; exact hi))
  have HV := Lib.hid (trc_v hv)
  clear hP hc hv k7
  go_enter Try.func80, Try.ntmps80
  go_upto_region 1 with fail
  obtain ⟨w1, hw1⟩ : ∃ V, w.alloc (.cells #[.slice none 0 0, .slice none 0 0] 91) = V := ⟨_, rfl⟩
  have HB1 := Lib.hid (show Below w.heap.size w w1 from by rw [← hw1]; exact (Below.refl _ _).alloc (Nat.le_refl _) _)
  have HQ1 := Lib.hid (show TwoR w1 w.heap.size (.slice none 0 0) (.slice none 0 0) from by rw [← hw1]; exact ⟨_, World.alloc_heap_new w _⟩)
  have hs1 : w1.heap.size = w.heap.size + 1 := by rw [← hw1]; simp
  rw [hw1]
  clear hw1
  obtain ⟨Q, hQ⟩ : ∃ n, w.heap.size = n := ⟨_, rfl⟩
  have HQ := Lib.hid hQ
  rw [hQ] at HQ1 hs1 ⊢
  clear hQ
  go_wp2_with fail
  refine (lfault16 aP nP cP lp C m T 0 HC.out _ (HP.out.under HB1.out)).mono ?_
  rintro e w2 ⟨rfl, hb2⟩
  have HB2 := Lib.hid hb2
  clear hb2
  go_wp2_with fail
  refine (mrun16 aP nP cP lp C m T k1 k2 (by omega) (by omega) (by omega) _ ((HP.out.under HB1.out).under HB2.out) HV.out HF.out).mono ?_
  rintro e w3 ⟨v, rfl, hr3⟩
  have HR3 := Lib.hid hr3
  obtain ⟨D, S, Z, rfl, _, _, _, _, _, _, hb3⟩ := hr3
  have hsz2 := HB2.out.size
  have HQ3 := Lib.hid ((HQ1.out.of_block (HB2.out.block Q (by omega))).of_block (hb3.block Q (by omega)))
  have HQ4 := Lib.hid (show TwoR (w3.setCell ⟨Q, 0, none⟩ (.slice (some ⟨D, 0, none⟩) nP nP)) Q (.slice (some ⟨D, 0, none⟩) nP nP) (.slice none 0 0) from by obtain ⟨ty, g⟩ := HQ3.out; exact ⟨ty, block_set 0 _ g⟩)
  have HQ5 := Lib.hid (HQ3.out.set (.slice (some ⟨D, 0, none⟩) nP nP) (.slice (some ⟨S, 0, none⟩) m m))
  obtain ⟨q0, q1⟩ := HQ3.out.cells
  have qf := HQ3.out.frozen 0
  have qf1 := HQ4.out.frozen 1
  have q2 := HQ4.out.cells.2
  obtain ⟨q3, q4⟩ := HQ5.out.cells
  clear hb3
  have HP9 := Lib.hid (show ∃ v, Ending.returned (.tuple #[.agg #[.slice (some ⟨D, 0, none⟩) nP nP, .slice (some ⟨S, 0, none⟩) m m], .int .i64 0]) = .returned (.tuple #[v, .int .i64 0]) ∧ RunIs w nP m (T + 1) (lnDone C lp T) (fun c t => sentF lp (c : Int) (lineS C lp t)) v ((w3.setCell ⟨Q, 0, none⟩ (.slice (some ⟨D, 0, none⟩) nP nP)).setCell ⟨Q, 1, none⟩ (.slice (some ⟨S, 0, none⟩) m m)) from
    ⟨_, rfl, HR3.out.store (Nat.le_of_eq HQ.out) (by omega) (HB1.out.trans (HB2.out.mono (by have := HQ.out; omega))) _ _⟩)
  go_wp2_with fail
  exact bodyPost_ret (v := .tuple #[.agg #[.slice (some ⟨D, 0, none⟩) nP nP, .slice (some ⟨S, 0, none⟩) m m], .int .i64 0]) (by simp [results, Try.results80, go_sem, q3, q4]) rfl HP9.out
end Go.Proofs.Ytkienpbmoilheaa

namespace Go.Proofs.Ytkienpbmoilheaa
open Go.RowKit
set_option linter.unusedSimpArgs false
set_option linter.unusedVariables false

/-- The first N values of a function. -/
def valsF (F : Nat → Int) (N : Nat) : List Int := (List.range N).map F
theorem valsF_len (F : Nat → Int) (N : Nat) : (valsF F N).length = N := by unfold valsF; simp
theorem valsF_at (F : Nat → Int) {N k : Nat} (hk : k < N) : (valsF F N).getD k 0 = F k := by
  unfold valsF
  rw [List.getD_eq_getElem?_getD, List.getElem?_map, List.getElem?_range hk]; rfl
/-- A run that can be read: the ticks of the packets, the sums of the classes. -/
structure RunR (w : World) (v : Value) (nP m N : Nat) (Dn : Nat → Int) (Sn : Nat → Nat → Int) : Prop where
  ex : ∃ da dc S off, v = .agg #[.slice da nP dc, .slice (some ⟨S, off, none⟩) m m] ∧ RowZ w da nP dc (valsF Dn nP) ∧ ∀ c, c < m → ∃ x k, w.cell? ⟨S, off + c, none⟩ = some (.slice x N k) ∧ RowZ w x N k (valsF (Sn c) N) ∧ ∃ B o, x = some ⟨B, o, none⟩
  sb : ∀ c, c < m → ∀ t, t < N → 0 ≤ Sn c t ∧ Sn c t ≤ 90000
  m6 : m ≤ 6
  n4 : 1 ≤ N ∧ N ≤ 4096
theorem RunR.under {w w' : World} {v : Value} {nP m N : Nat} {Dn : Nat → Int} {Sn : Nat → Nat → Int} (h : RunR w v nP m N Dn Sn) (hb : Below w.heap.size w w') : RunR w' v nP m N Dn Sn := by
  obtain ⟨da, dc, S, off, hv, h1, h2⟩ := h.ex
  exact ⟨⟨da, dc, S, off, hv, h1.under hb, fun c hc => by obtain ⟨x, k, e1, e2, e3⟩ := h2 c hc; exact ⟨x, k, (hb.cell (lt_of_cell e1)).trans e1, e2.under hb, e3⟩⟩, h.sb, h.m6, h.n4⟩
theorem rowZ_empty (w : World) (a : Option Addr) (cap : Nat) (hc : cap ≤ 9223372036854775807) : RowZ w a 0 cap [] := ⟨rfl, Nat.zero_le _, Nat.zero_le _, hc, fun i hi => absurd hi (Nat.not_lt_zero _), fun i hi => absurd hi (Nat.not_lt_zero _)⟩
theorem RunIs.read {w w' : World} {v : Value} {nP m N : Nat} {Dn : Nat → Int} {Sn : Nat → Nat → Int} (h : RunIs w nP m N Dn Sn v w') (hn : nP ≤ 60) (hm : m ≤ 6) (hN : 1 ≤ N ∧ N ≤ 4096) (hD : ∀ i, i < nP → -1 ≤ Dn i ∧ Dn i ≤ 4096) (hS : ∀ c, c < m → ∀ t, t < N → 0 ≤ Sn c t ∧ Sn c t ≤ 90000) : RunR w' v nP m N Dn Sn := by
  obtain ⟨D, S, Z, hv, _, _, _, h1, h2, h3, _⟩ := h
  refine ⟨⟨some ⟨D, 0, none⟩, nP, S, 0, hv, ?_, fun c hc => ⟨some ⟨Z + c, 0, none⟩, N, by rw [Nat.zero_add]; exact h2.cell hc, ?_, ⟨_, _, rfl⟩⟩⟩, hS, hm, hN⟩
  · rcases h1 with h0 | h1
    · subst h0; exact rowZ_empty _ _ _ (by omega)
    · exact h1.row (Nat.le_refl _) (valsF_len _ _) (Nat.le_refl _) (by omega) (by omega) (fun k hk => valsF_at _ hk) (fun k hk => by have := hD k hk; exact ⟨by omega, by omega⟩)
  · exact (h3 c hc).row (Nat.le_refl _) (valsF_len _ _) (Nat.le_refl _) (by omega) (by omega) (fun k hk => valsF_at _ hk) (fun k hk => by have := hS c hc k hk; exact ⟨by omega, by omega⟩)

/-- A run in blocks of its own. -/
def RunQ (base : Nat) (nP m N : Nat) (Dn : Nat → Int) (Sn : Nat → Nat → Int) (v : Value) (wx : World) : Prop :=
  ∃ D S Z, v = .agg #[.slice (some ⟨D, 0, none⟩) nP nP, .slice (some ⟨S, 0, none⟩) m m] ∧ base ≤ D ∧ base ≤ S ∧ base ≤ Z ∧ (nP = 0 ∨ SumC wx D nP Dn) ∧ SlcC wx S Z m N ∧ ∀ c, c < m → SumC wx (Z + c) N (Sn c)
theorem RunIs.q {w0 wx : World} {nP m N : Nat} {Dn : Nat → Int} {Sn : Nat → Nat → Int} {v : Value} (h : RunIs w0 nP m N Dn Sn v wx) : RunQ w0.heap.size nP m N Dn Sn v wx ∧ Below w0.heap.size w0 wx := by
  obtain ⟨D, S, Z, h1, h2, h3, h4, h5, h6, h7, h8⟩ := h
  exact ⟨⟨D, S, Z, h1, h2, h3, h4, h5, h6, h7⟩, h8⟩
theorem RunQ.under {base : Nat} {wx wy : World} {nP m N : Nat} {Dn : Nat → Int} {Sn : Nat → Nat → Int} {v : Value} (h : RunQ base nP m N Dn Sn v wx) (hb : Below wx.heap.size wx wy) : RunQ base nP m N Dn Sn v wy := by
  obtain ⟨D, S, Z, h1, h2, h3, h4, h5, h6, h7⟩ := h
  exact ⟨D, S, Z, h1, h2, h3, h4, h5.imp id fun x => x.under hb, h6.under hb, fun c hc => (h7 c hc).under hb⟩
theorem RunQ.apart {base b : Nat} {wx wy : World} {nP m N : Nat} {Dn : Nat → Int} {Sn : Nat → Nat → Int} {v : Value} (h : RunQ base nP m N Dn Sn v wx) (hb : b < base) (ha : Apart b wx wy) : RunQ base nP m N Dn Sn v wy := by
  obtain ⟨D, S, Z, h1, h2, h3, h4, h5, h6, h7⟩ := h
  exact ⟨D, S, Z, h1, h2, h3, h4, h5.imp id fun x => x.of_block (ha.block _ x.lt (by omega)), h6.of_block (ha.block _ h6.lt (by omega)), fun c hc => (h7 c hc).of_block (ha.block _ (h7 c hc).lt (by omega))⟩
theorem RunQ.read {base : Nat} {w' : World} {v : Value} {nP m N : Nat} {Dn : Nat → Int} {Sn : Nat → Nat → Int} (h : RunQ base nP m N Dn Sn v w') (hn : nP ≤ 60) (hm : m ≤ 6) (hN : 1 ≤ N ∧ N ≤ 4096) (hD : ∀ i, i < nP → -1 ≤ Dn i ∧ Dn i ≤ 4096) (hS : ∀ c, c < m → ∀ t, t < N → 0 ≤ Sn c t ∧ Sn c t ≤ 90000) : RunR w' v nP m N Dn Sn := by
  obtain ⟨D, S, Z, hv, _, _, _, h1, h2, h3⟩ := h
  refine ⟨⟨some ⟨D, 0, none⟩, nP, S, 0, hv, ?_, fun c hc => ⟨some ⟨Z + c, 0, none⟩, N, by rw [Nat.zero_add]; exact h2.cell hc, ?_, ⟨_, _, rfl⟩⟩⟩, hS, hm, hN⟩
  · rcases h1 with h0 | h1
    · subst h0; exact rowZ_empty _ _ _ (by omega)
    · exact h1.row (Nat.le_refl _) (valsF_len _ _) (Nat.le_refl _) (by omega) (by omega) (fun k hk => valsF_at _ hk) (fun k hk => by have := hD k hk; exact ⟨by omega, by omega⟩)
  · exact (h3 c hc).row (Nat.le_refl _) (valsF_len _ _) (Nat.le_refl _) (by omega) (by omega) (fun k hk => valsF_at _ hk) (fun k hk => by have := hS c hc k hk; exact ⟨by omega, by omega⟩)
theorem row_get16 {w : World} {a : Option Addr} {n cap : Nat} {zs : List Int} (h : RowZ w a n cap zs) {k : Nat} (hk : k < n) : ∃ x z, a = some x ∧ w.cell? (x.add k) = some (.int .i64 z) ∧ zs[k]? = some z ∧ zs.getD k 0 = z ∧ In64 z := by
  obtain ⟨x, hx, hc⟩ := h.cell k hk
  have hl : k < zs.length := by rw [h.len]; exact hk
  refine ⟨x, _, hx, hc, ?_, rfl, h.bd k hk⟩
  rw [List.getD_eq_getElem?_getD, List.getElem?_eq_getElem hl]; rfl
/-- Whether a class is asked for. -/
def selB (c : Int) (j : Nat) : Bool := decide (c = -1) || decide (c = (j : Int))
def knB (c : Int) : Nat → Bool
  | 0 => false
  | k + 1 => knB c k || selB c k
def sumS (c : Int) (Sn : Nat → Nat → Int) (t : Nat) : Nat → Int
  | 0 => 0
  | k + 1 => sumS c Sn t k + if selB c k = true then Sn k t else 0
theorem sumS_bd {c : Int} {Sn : Nat → Nat → Int} {t m : Nat} (h : ∀ j, j < m → 0 ≤ Sn j t ∧ Sn j t ≤ 90000) : ∀ k, k ≤ m → 0 ≤ sumS c Sn t k ∧ sumS c Sn t k ≤ 90000 * (k : Int)
  | 0, _ => ⟨Int.le_refl _, Int.le_refl _⟩
  | k + 1, hk => by
    have := sumS_bd (c := c) h k (by omega)
    have := h k (by omega)
    unfold sumS
    split <;> omega
/-- What was sent before, and whether it is known. -/
def sentA (c t : Int) (Sn : Nat → Nat → Int) (m N : Nat) : Int × Bool := if 0 ≤ t ∧ t < (N : Int) then (sumS c Sn t.toNat m, knB c m) else (0, false)

set_option maxRecDepth 100000 in
set_option maxHeartbeats 3200000 in
theorem sentBefore16 (v : Value) (nP m N : Nat) (Dn : Nat → Int) (Sn : Nat → Nat → Int) (c t : Int) (s : Int) (kn : Bool) (hs : sentA c t Sn m N = (s, kn)) (w : World) (h : RunR w v nP m N Dn Sn) :
    Calls Try.prog 198 #[v, .int .i64 c, .int .i64 t] w (fun e w' => e = .returned (.tuple #[.int .i64 s, .bool kn]) ∧ Below w.heap.size w w') := by
  obtain ⟨da, dc, S, off, rfl, hd, hr⟩ := h.ex
  have hm6 := h.m6
  have hN1 := h.n4
  have HR := Lib.hid hr
  have HSB := Lib.hid h.sb
  have HS := Lib.hid hs
  clear h hd hr hs
  go_enter Try.func198, Try.ntmps198
  go_upto_region 1 with fail
  obtain ⟨w1, hw1⟩ : ∃ V, w.alloc (.cells #[.slice da nP dc, .slice (some ⟨S, off, none⟩) m m] 91) = V := ⟨_, rfl⟩
  have HB1 := Lib.hid (show Below w.heap.size w w1 from by rw [← hw1]; exact (Below.refl _ _).alloc (Nat.le_refl _) _)
  have HQ1 := Lib.hid (show TwoR w1 w.heap.size (.slice da nP dc) (.slice (some ⟨S, off, none⟩) m m) from by rw [← hw1]; exact ⟨_, World.alloc_heap_new w _⟩)
  rw [hw1]
  clear hw1
  obtain ⟨q0, q1⟩ := HQ1.out.cells
  by_cases ht : 0 ≤ t ∧ t < (N : Int)
  · obtain ⟨τ, rfl⟩ : ∃ τ : Nat, t = (τ : Int) := ⟨t.toNat, by omega⟩
    have htN : τ < N := by omega
    have htI : (τ : Int) < (N : Int) := by omega
    clear ht
    have HE := Lib.hid (show s = sumS c Sn τ m ∧ kn = knB c m from by
      have := HS.out
      unfold sentA at this
      rw [if_pos ⟨by omega, htI⟩] at this
      cases this
      exact ⟨by rw [Int.toNat_natCast], rfl⟩)
    go_wp2_with fail
    go_loopw [15, 8, 9] (fun s15 s8 s9 wx => ∃ k : Nat, s15 = .int .i64 k ∧ s8 = .int .i64 (sumS c Sn τ k) ∧ s9 = .bool (knB c k) ∧ k ≤ m ∧ Hid (Below w.heap.size w wx)) (fun s15 _ _ _ => m - (intOf s15).toNat)
    case atStart => exact ⟨0, by go_num, rfl, rfl, Nat.zero_le _, HB1⟩
    case round =>
      obtain ⟨k, rfl, rfl, rfl, hk, HB⟩ := hrel
      obtain ⟨wk, rfl⟩ : ∃ u : World, u = wr := ⟨_, rfl⟩
      by_cases hlt : k < m
      · have hlI : (k : Int) < (m : Int) := by omega
        obtain ⟨x, cap, hx, hz, _⟩ := HR.out k hlt
        have hx' := (HB.out.cell (lt_of_cell hx)).trans hx
        obtain ⟨y, z, hy, hcy, _, hzt, hz64⟩ := row_get16 (hz.under HB.out) htN
        rw [valsF_at _ htN] at hzt
        have HZT := Lib.hid hzt
        clear hx hz hzt
        subst hy
        have hsb := sumS_bd (c := c) (Sn := Sn) (t := τ) (m := m) (fun j hj => HSB.out j hj τ htN) k hk
        have hzb := HSB.out k hlt τ htN
        rw [HZT.out] at hzb
        obtain ⟨a, ha⟩ : ∃ a, sumS c Sn τ k = a := ⟨_, rfl⟩
        obtain ⟨b, hb⟩ : ∃ b, knB c k = b := ⟨_, rfl⟩
        rw [ha] at hsb ⊢
        rw [hb]
        have hwa : IntKind.i64.wrap (a + z) = a + z := IntWalk.i64_in _ ⟨by omega, by omega⟩
        have hwn : IntKind.i64.wrap ((N : Int) - 1) = (N : Int) - 1 := IntWalk.i64_in _ ⟨by omega, by omega⟩
        have HAB := Lib.hid (And.intro ha hb)
        clear ha hb
        by_cases hc1 : c = -1
        · subst hc1
          have HN := Lib.hid (show a + z = sumS (-1) Sn τ (k + 1) ∧ true = knB (-1) (k + 1) from by
            have h1 := HAB.out
            unfold sumS knB selB
            simp [h1, HZT.out])
          go_wp2_with fail
          refine (outside16 (τ : Int) 0 ((N : Int) - 1) false (by simp; omega) _).mono ?_
          rintro e w2 ⟨rfl, rfl⟩
          go_wp2_with fail
          go_roundw
          case rel => exact ⟨k + 1, by go_num, by rw [HN.out.1], by rw [HN.out.2], by omega, HB⟩
          case measure => first | (simp [intOf]; done) | (simp [intOf]; omega)
        · have hcB : (c != -1) = true := by simp [hc1]
          by_cases hc2 : c = (k : Int)
          · have hcB2 : (c != (k : Int)) = false := by simp [hc2]
            have HN := Lib.hid (show a + z = sumS c Sn τ (k + 1) ∧ true = knB c (k + 1) from by
              have h1 := HAB.out
              unfold sumS knB selB
              rw [h1.1, h1.2, HZT.out, decide_eq_true hc2]
              simp)
            have HC2 := Lib.hid hc2
            have HC1 := Lib.hid hc1
            clear hc2 hc1
            go_wp2_with fail
            refine (outside16 (τ : Int) 0 ((N : Int) - 1) false (by simp; omega) _).mono ?_
            rintro e w2 ⟨rfl, rfl⟩
            go_wp2_with fail
            go_roundw
            case rel => exact ⟨k + 1, by go_num, by rw [HN.out.1], by rw [HN.out.2], by omega, HB⟩
            case measure => first | (simp [intOf]; done) | (simp [intOf]; omega)
          · have hcB2 : (c != (k : Int)) = true := by simp [hc2]
            have HN := Lib.hid (show a = sumS c Sn τ (k + 1) ∧ b = knB c (k + 1) from by
              have h1 := HAB.out
              unfold sumS knB selB
              simp [h1, hc1, hc2])
            have HC2 := Lib.hid hc2
            have HC1 := Lib.hid hc1
            clear hc2 hc1
            go_wp2_with fail
            go_roundw
            case rel => exact ⟨k + 1, by go_num, by rw [HN.out.1], by rw [HN.out.2], by omega, HB⟩
            case measure => first | (simp [intOf]; done) | (simp [intOf]; omega)
      · obtain rfl : k = m := by omega
        have hkI : ¬ (k : Int) < (k : Int) := by omega
        go_wp2_with fail
        go_ret2
        exact ⟨by rw [HE.out.1, HE.out.2]; rfl, HB.out⟩
  · have HE := Lib.hid (show s = 0 ∧ kn = false from by
      have := HS.out
      unfold sentA at this
      rw [if_neg ht] at this
      cases this
      exact ⟨rfl, rfl⟩)
    have HT := Lib.hid ht
    clear ht
    go_wp2_with fail
    go_loopw [15, 8, 9] (fun s15 s8 s9 wx => ∃ k : Nat, s15 = .int .i64 k ∧ s8 = .int .i64 0 ∧ s9 = .bool false ∧ k ≤ m ∧ Hid (Below w.heap.size w wx)) (fun s15 _ _ _ => m - (intOf s15).toNat)
    case atStart => exact ⟨0, by go_num, rfl, rfl, Nat.zero_le _, HB1⟩
    case round =>
      obtain ⟨k, rfl, rfl, rfl, hk, HB⟩ := hrel
      obtain ⟨wk, rfl⟩ : ∃ u : World, u = wr := ⟨_, rfl⟩
      by_cases hlt : k < m
      · have hlI : (k : Int) < (m : Int) := by omega
        obtain ⟨x, cap, hx, hz, _⟩ := HR.out k hlt
        have hx' := (HB.out.cell (lt_of_cell hx)).trans hx
        clear hx hz
        have hwn : IntKind.i64.wrap ((N : Int) - 1) = (N : Int) - 1 := IntWalk.i64_in _ ⟨by omega, by omega⟩
        by_cases hc : c = -1 ∨ c = (k : Int)
        · have hout : (decide (t < 0) || decide ((N : Int) - 1 < t)) = true := by
            have := HT.out
            rw [Bool.or_eq_true, decide_eq_true_eq, decide_eq_true_eq]; omega
          by_cases hc1 : c = -1
          · have hcB : (c != -1) = false := by simp [hc1]
            have HC1 := Lib.hid hc1
            clear hc1 hc
            go_wp2_with fail
            refine (outside16 t 0 ((N : Int) - 1) true hout _).mono ?_
            rintro e w2 ⟨rfl, rfl⟩
            go_wp2_with fail
            go_ret2
            exact ⟨by rw [HE.out.1, HE.out.2]; rfl, HB.out⟩
          · have hcB : (c != -1) = true := by simp [hc1]
            have hcB2 : (c != (k : Int)) = false := by simp; omega
            have HC1 := Lib.hid hc1
            clear hc1 hc
            go_wp2_with fail
            refine (outside16 t 0 ((N : Int) - 1) true hout _).mono ?_
            rintro e w2 ⟨rfl, rfl⟩
            go_wp2_with fail
            go_ret2
            exact ⟨by rw [HE.out.1, HE.out.2]; rfl, HB.out⟩
        · have hcB : (c != -1) = true := by simp; omega
          have hcB2 : (c != (k : Int)) = true := by simp; omega
          have HC := Lib.hid hc
          clear hc
          go_wp2_with fail
          go_roundw
          case rel => exact ⟨k + 1, by go_num, rfl, rfl, by omega, HB⟩
          case measure => first | (simp [intOf]; done) | (simp [intOf]; omega)
      · obtain rfl : k = m := by omega
        have hkI : ¬ (k : Int) < (k : Int) := by omega
        go_wp2_with fail
        go_ret2
        exact ⟨by rw [HE.out.1, HE.out.2]; rfl, HB.out⟩

set_option maxRecDepth 100000 in
set_option maxHeartbeats 1600000 in
theorem sound16 (aP : Option Addr) (nP cP : Nat) (v : Value) (m N : Nat) (Dn : Nat → Int) (Sn : Nat → Nat → Int) (T : Int) (hT : T + 1 = (N : Int)) (w : World) (h : RunR w v nP m N Dn Sn) :
    Calls Try.prog 87 #[.slice aP nP cP, v, .int .i64 m, .int .i64 T] w (Says (.bool true) w) := by
  obtain ⟨da, dc, S, off, rfl, hd, hr⟩ := h.ex
  have hm6 := h.m6
  have hN1 := h.n4
  have hwt : IntKind.i64.wrap (T + 1) = (N : Int) := by rw [hT]; exact IntWalk.i64_in _ ⟨by omega, by omega⟩
  have HR := Lib.hid hr
  have HT := Lib.hid hT
  clear h hd hr hT
  go_enter Try.func87, Try.ntmps87
  go_upto_region 1 with fail
  obtain ⟨w1, hw1⟩ : ∃ V, w.alloc (.cells #[.slice da nP dc, .slice (some ⟨S, off, none⟩) m m] 91) = V := ⟨_, rfl⟩
  have HB1 := Lib.hid (show Below w.heap.size w w1 from by rw [← hw1]; exact (Below.refl _ _).alloc (Nat.le_refl _) _)
  have HQ1 := Lib.hid (show TwoR w1 w.heap.size (.slice da nP dc) (.slice (some ⟨S, off, none⟩) m m) from by rw [← hw1]; exact ⟨_, World.alloc_heap_new w _⟩)
  rw [hw1]
  clear hw1
  obtain ⟨q0, q1⟩ := HQ1.out.cells
  obtain ⟨bx, hbx⟩ : ∃ n, w.heap.size = n := ⟨_, rfl⟩
  have HW := Lib.hid hbx
  rw [hbx] at q0 q1 HQ1 ⊢
  clear hbx
  go_wp2_with fail
  go_loopw [9] (fun s9 wx => ∃ k : Nat, s9 = .int .i64 k ∧ k ≤ m ∧ Hid (Below w1.heap.size w1 wx)) (fun s9 _ => m - (intOf s9).toNat)
  case atStart => exact ⟨0, by go_num, Nat.zero_le _, Lib.hid (Below.refl _ _)⟩
  case round =>
    obtain ⟨k, rfl, hk, HE⟩ := hrel
    obtain ⟨wk, rfl⟩ : ∃ u : World, u = wr := ⟨_, rfl⟩
    clear q0 q1
    obtain ⟨q0, q1⟩ := (HQ1.out.under HE.out).cells
    by_cases hlt : k < m
    · have hlI : (k : Int) < (m : Int) := by omega
      obtain ⟨x, cap, hx, hz, _⟩ := HR.out k hlt
      have hx' := ((HB1.out.trans (HE.out.mono HB1.out.size)).cell (lt_of_cell hx)).trans hx
      clear hx hz
      go_wp2_with fail
      go_roundw
      case rel => exact ⟨k + 1, by go_num, by omega, HE⟩
      case measure => first | (simp [intOf]; done) | (simp [intOf]; omega)
    · obtain rfl : k = m := by omega
      have hkI : ¬ (k : Int) < (k : Int) := by omega
      go_wp2_with fail
      go_ret
      exact ⟨rfl, HB1.out.trans (HE.out.mono HB1.out.size)⟩
end Go.Proofs.Ytkienpbmoilheaa
