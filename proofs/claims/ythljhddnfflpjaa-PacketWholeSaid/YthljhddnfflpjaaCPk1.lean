/- Package packet: the fault of a trace with its ticks, Whole. By the verifier's side. -/
import Derived.Test.YthljhddnfflpjaaCRTrG
import Derived.Test.YthljhddnfflpjaaCAvMAvLPkMPkS
namespace Go.Proofs.Ythljhddnfflpjaa
open Go.RowKit
set_option linter.unusedSimpArgs false
set_option linter.unusedVariables false

set_option maxHeartbeats 400000 in
theorem outside15 (n lo hi : Int) (c : Bool) (hc : (decide (n < lo) || decide (hi < n)) = c) (w : World) :
    Calls Try.prog 179 #[.int .i64 n, .int .i64 lo, .int .i64 hi] w fun e w' => e = .returned (.bool c) ∧ w' = w := by
  by_cases h1 : n < lo
  · have hc' : c = true := by rw [← hc]; simp [h1]
    subst hc'
    clear hc
    go_enter Try.func179, Try.ntmps179
    go_wp2_with fail
    go_ret
    exact ⟨rfl, rfl⟩
  · by_cases h2 : hi < n
    · have hc' : c = true := by rw [← hc]; simp [h2]
      subst hc'
      clear hc
      go_enter Try.func179, Try.ntmps179
      go_wp2_with fail
      go_ret
      exact ⟨rfl, rfl⟩
    · have hc' : c = false := by rw [← hc]; simp [h1, h2]
      subst hc'
      clear hc
      go_enter Try.func179, Try.ntmps179
      go_wp2_with fail
      go_ret
      exact ⟨rfl, rfl⟩

theorem row_get {w : World} {a : Option Addr} {n cap : Nat} {zs : List Int} (h : RowZ w a n cap zs) {k : Nat} (hk : k < n) : ∃ x z, a = some x ∧ w.cell? (x.add k) = some (.int .i64 z) ∧ zs[k]? = some z ∧ zs.getD k 0 = z ∧ In64 z := by
  obtain ⟨x, hx, hc⟩ := h.cell k hk
  have hl : k < zs.length := by rw [h.len]; exact hk
  refine ⟨x, _, hx, hc, ?_, rfl, h.bd k hk⟩
  rw [List.getD_eq_getElem?_getD, List.getElem?_eq_getElem hl]; rfl
theorem box_pk {wk u : World} {q : Pk} (hu : wk.alloc (.cells #[.int .i64 q.f, .int .i64 q.t, .int .i64 q.s] 94) = u) : Below wk.heap.size wk u ∧ u.cell? ⟨wk.heap.size, 0, none⟩ = some (.int .i64 q.f) ∧ u.cell? ⟨wk.heap.size, 1, none⟩ = some (.int .i64 q.t) ∧ u.cell? ⟨wk.heap.size, 2, none⟩ = some (.int .i64 q.s) := by
  rw [← hu]; exact ⟨(Below.refl _ _).alloc (Nat.le_refl _) _, cell_new13 rfl, cell_new13 rfl, cell_new13 rfl⟩

set_option maxRecDepth 100000 in
set_option maxHeartbeats 1600000 in
theorem fault15 (a : Option Addr) (n cap : Nat) (l : List Pk) (ad : Option Addr) (nd cd : Nat) (D : List Int) (c : Int) (hc : dcode l D = c) (w : World) (h : PkR w a n cap l) (h2 : RowZ w ad nd cd D) :
    Calls Try.prog 183 #[.slice a n cap, .slice ad nd cd] w (Says (.int .i64 c) w) := by
  have hsm := h.sm
  have H := Lib.hid h
  have R := Lib.hid h2
  have HC := Lib.hid hc
  have HL := Lib.hid (And.intro h.len h2.len)
  have hnd := h2.sm
  obtain ⟨v, hv⟩ : ∃ v, vcode l = v := ⟨_, rfl⟩
  have HV := Lib.hid hv
  clear h h2 hc hv
  go_enter Try.func183, Try.ntmps183
  go_wp2_with fail
  refine (validate_any a n cap l v HV.out _ H.out).mono ?_
  rintro e w1 ⟨rfl, hb⟩
  have HB := Lib.hid hb
  clear hb
  by_cases hv0 : v = 0
  · subst hv0
    by_cases hnn : nd = n
    · subst hnn
      have HG := Lib.hid (show dgo (l.drop 0) (D.drop 0) = c from by rw [List.drop_zero, List.drop_zero, ← HC.out]; unfold dcode; rw [if_pos HV.out, if_pos (by rw [HL.out.1, HL.out.2])])
      go_wp2_with fail
      go_loopw [20] (fun vi wx => ∃ k : Nat, vi = .int .i64 k ∧ k ≤ nd ∧ Hid (dgo (l.drop k) (D.drop k) = c) ∧ Hid (Below w.heap.size w wx)) (fun vi _ => nd - (intOf vi).toNat)
      case atStart => exact ⟨0, by go_num, Nat.zero_le _, HG, HB⟩
      case round =>
        obtain ⟨k, rfl, hk, hG, HW⟩ := hrel
        obtain ⟨wk, rfl⟩ : ∃ u : World, u = wr := ⟨_, rfl⟩
        by_cases hlt : k < nd
        · have hlI : (k : Int) < (nd : Int) := by omega
          obtain ⟨B, off, q, ha, hcs, hq, hbd⟩ := (H.out.under HW.out).at hlt
          obtain ⟨y, x, hy, hcy, hx, _, hx64⟩ := row_get (R.out.under HW.out) hlt
          obtain ⟨c0, c1, c2⟩ := hcs k q hq
          obtain ⟨⟨b1, b2⟩, ⟨b3, b4⟩, b5, b6⟩ := hbd
          have HK := Lib.hid (And.intro hq hx)
          have hst := dgo_step hq hx
          rw [hG.out] at hst
          have HS := Lib.hid hst
          have HCY := Lib.hid hcy
          clear hcs hq hx hst hcy
          subst ha hy
          go_upto_region 9 with fail
          obtain ⟨u, hu⟩ : ∃ u : World, wk.alloc (.cells #[.int .i64 q.f, .int .i64 q.t, .int .i64 q.s] 94) = u := ⟨_, rfl⟩
          obtain ⟨hb, n0, n1, n2⟩ := box_pk hu
          have hyc := (hb.cell (lt_of_cell HCY.out)).trans HCY.out
          have HU := Lib.hid (HW.out.trans (hb.mono HW.out.size))
          rw [hu]
          clear hu hb c0 c1 c2 n0 n2
          by_cases hx1 : x = -1
          · subst hx1
            have HN := Lib.hid (show dgo (l.drop (k + 1)) (D.drop (k + 1)) = c from by rw [HS.out, if_neg (fun h => h.1 rfl)])
            go_quiet (fail)
            go_wp2_with fail
            go_roundw
            case rel => exact ⟨k + 1, by go_num, by omega, HN, HU.out.drewN _⟩
            case measure => first | (simp [intOf]; done) | (simp [intOf]; omega)
          · have hx2 : (x == -1) = false := by simp [hx1]
            have hx3 : (x != -1) = true := by simp [hx1]
            obtain ⟨o, ho⟩ : ∃ o, (decide (x < q.t) || decide (1999 < x)) = o := ⟨_, rfl⟩
            have HO := Lib.hid ho
            clear ho
            cases o
            case false =>
              have HN := Lib.hid (show dgo (l.drop (k + 1)) (D.drop (k + 1)) = c from by
                have h1 := HO.out
                simp only [Bool.or_eq_false_iff, decide_eq_false_iff_not] at h1
                rw [HS.out, if_neg (fun h => by omega)])
              go_quiet (first | (go_at_fn 179; exact Calls.quiet_of_same (outside15 x q.t 1999 _ HO.out _)) | (go_at_call 179; exact Calls.quiet_of_same (outside15 x q.t 1999 _ HO.out _)))
              go_wp2_with fail
              go_roundw
              case rel => exact ⟨k + 1, by go_num, by omega, HN, HU.out.drewN _⟩
              case measure => first | (simp [intOf]; done) | (simp [intOf]; omega)
            case true =>
              have HN := Lib.hid (show c = 2 from by
                have h1 := HO.out
                simp only [Bool.or_eq_true, decide_eq_true_eq] at h1
                rw [HS.out, if_pos ⟨hx1, h1⟩])
              go_quiet (first | (go_at_fn 179; exact Calls.quiet_of_same (outside15 x q.t 1999 _ HO.out _)) | (go_at_call 179; exact Calls.quiet_of_same (outside15 x q.t 1999 _ HO.out _)))
              go_wp2_with fail
              go_ret
              exact ⟨by rw [HN.out]; rfl, HU.out.drewN _⟩
        · obtain rfl : k = nd := by omega
          have hkI : ¬ (k : Int) < (k : Int) := by omega
          go_wp2_with fail
          go_ret
          have h1 := hG.out
          rw [List.drop_eq_nil_of_le (by rw [HL.out.1]; exact Nat.le_refl _)] at h1
          exact ⟨by rw [← h1]; rfl, HW.out⟩
    · have hnI : ¬ (nd : Int) = (n : Int) := by omega
      have hnB : ((nd : Int) == (n : Int)) = false := by simp; omega
      have HN := Lib.hid (show c = 7 from by rw [← HC.out]; unfold dcode; rw [if_pos HV.out, if_neg (by rw [HL.out.1, HL.out.2]; exact hnn)])
      go_wp2_with fail
      go_ret
      exact ⟨by rw [HN.out]; rfl, HB.out⟩
  · have hvB : (v == 0) = false := by simp [hv0]
    have HN := Lib.hid (show c = v from by rw [← HC.out]; unfold dcode; rw [HV.out, if_neg hv0])
    go_wp2_with fail
    go_ret
    exact ⟨by rw [HN.out]; rfl, HB.out⟩

set_option maxRecDepth 100000 in
set_option maxHeartbeats 1600000 in
theorem whole15 (a : Option Addr) (n cap : Nat) (l : List Pk) (fl b v : Int) (hb : In64 b) (hv : wholeA l fl b = v) (w : World) (h : PkR w a n cap l) :
    Calls Try.prog 84 #[.slice a n cap, .int .i64 fl, .int .i64 b] w (Says (.int .i64 v) w) := by
  have H := Lib.hid h
  have HA := Lib.hid hv
  obtain ⟨hb1, hb2⟩ := hb
  obtain ⟨v0, hv0⟩ : ∃ v, vcode l = v := ⟨_, rfl⟩
  have HV := Lib.hid hv0
  clear h hv hv0
  go_enter Try.func84, Try.ntmps84
  go_wp2_with fail
  refine (validate_any a n cap l v0 HV.out _ H.out).mono ?_
  rintro e w1 ⟨rfl, hb⟩
  have HB := Lib.hid hb
  have H1 := Lib.hid (H.out.under hb)
  clear hb
  by_cases hv0 : v0 = 0
  · subst hv0
    go_wp2_with fail
    refine (select13 a n cap l fl _ H1.out).mono ?_
    rintro e w2 ⟨a2, n2, c2, rfl, hb2, hr2, hx2⟩
    have HB2 := Lib.hid (HB.out.trans (hb2.mono HB.out.size))
    have R2 := Lib.hid hr2
    have hlen := hr2.len
    have hn60 : n2 ≤ 60 := by
      rw [← hlen]
      refine Nat.le_trans (sel_le fl l) ?_
      have := HV.out
      unfold vcode at this
      split at this
      · cases this
      · omega
    have HL := Lib.hid hlen
    have HOK := Lib.hid (sel_bd (fl := fl) HV.out)
    have HG := Lib.hid (show whl b 0 ((sel fl l).drop 0) = v from by rw [List.drop_zero, ← HA.out]; unfold wholeA; rw [if_pos HV.out])
    clear hb2 hr2 hx2 hlen
    go_wp2_with fail
    go_loopw [17, 7] (fun s17 s7 wx => ∃ (k : Nat) (s : Int), s17 = .int .i64 k ∧ s7 = .int .i64 s ∧ k ≤ n2 ∧ 0 ≤ s ∧ s ≤ 1500 * (k : Int) ∧ Hid (whl b s ((sel fl l).drop k) = v) ∧ Hid (Below w2.heap.size w2 wx)) (fun s17 _ _ => n2 - (intOf s17).toNat)
    case atStart => exact ⟨0, 0, by go_num, rfl, Nat.zero_le _, Int.le_refl _, by omega, HG, Below.refl _ _⟩
    case round =>
      obtain ⟨k, s, rfl, rfl, hk, hs0, hs1, hG, HW⟩ := hrel
      obtain ⟨wk, rfl⟩ : ∃ u : World, u = wr := ⟨_, rfl⟩
      by_cases hlt : k < n2
      · have hlI : (k : Int) < (n2 : Int) := by omega
        obtain ⟨B, off, q, ha, hcs, hq, hbd⟩ := (R2.out.under HW.out).at hlt
        obtain ⟨c0, c1, c2'⟩ := hcs k q hq
        obtain ⟨o1, o2, o3, o4, o5, o6⟩ := (okP_iff q).1 (HOK.out q (List.mem_of_getElem? hq))
        have hst := whl_step (b := b) (s := s) hq
        rw [hG.out] at hst
        have HS := Lib.hid hst
        clear hcs hq hst hbd
        subst ha
        go_upto_region 7 with fail
        obtain ⟨u, hu⟩ : ∃ u : World, wk.alloc (.cells #[.int .i64 q.f, .int .i64 q.t, .int .i64 q.s] 94) = u := ⟨_, rfl⟩
        obtain ⟨hb, n0, n1, n2'⟩ := box_pk hu
        have HU := Lib.hid (HW.out.trans (hb.mono HW.out.size))
        rw [hu]
        clear hu hb c0 c1 c2' n0 n1
        have hwr : IntKind.i64.wrap (s + q.s) = s + q.s := IntWalk.i64_in _ ⟨by omega, by omega⟩
        by_cases hbs : b < s + q.s
        · have HN := Lib.hid (show v = s from by rw [HS.out, if_pos hbs])
          go_wp2_with fail
          go_ret
          exact ⟨by rw [HN.out]; rfl, HB2.out.trans (HU.out.mono HB2.out.size)⟩
        · have HN := Lib.hid (show whl b (s + q.s) ((sel fl l).drop (k + 1)) = v from by rw [HS.out, if_neg hbs])
          go_wp2_with fail
          go_roundw
          case rel => exact ⟨k + 1, s + q.s, by go_num, rfl, by omega, by omega, by omega, HN, HU⟩
          case measure => first | (simp [intOf]; done) | (simp [intOf]; omega)
      · obtain rfl : k = n2 := by omega
        have hkI : ¬ (k : Int) < (k : Int) := by omega
        go_wp2_with fail
        go_ret
        have h1 := hG.out
        rw [List.drop_eq_nil_of_le (by rw [HL.out]; exact Nat.le_refl _)] at h1
        exact ⟨by rw [← h1]; rfl, HB2.out.trans (HW.out.mono HB2.out.size)⟩
  · have hvB : (v0 == 0) = false := by simp [hv0]
    have HN := Lib.hid (show v = 0 from by rw [← HA.out]; unfold wholeA; rw [HV.out, if_neg hv0])
    go_wp2_with fail
    go_ret
    exact ⟨by rw [HN.out]; rfl, HB.out⟩
end Go.Proofs.Ythljhddnfflpjaa
