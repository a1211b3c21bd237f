/- Package packet: the fault of a trace with its ticks, Whole. By the verifier's side. -/
import Derived.Test.YthljhddnfflpjaaHRTrG
import Derived.Test.YthljhddnfflpjaaHAvMAvLPkM
import Derived.Test.YthljhddnfflpjaaHCurCCurDCurE
namespace Go.Proofs.Ythljhddnfflpjaa
open Go.RowKit
set_option linter.unusedSimpArgs false
set_option linter.unusedVariables false

set_option maxHeartbeats 400000 in
theorem outside15 (n lo hi : Int) (c : Bool) (hc : (decide (n < lo) || decide (hi < n)) = c) (w : World) :
    Calls Try.prog 179 #[.int .i64 n, .int .i64 lo, .int .i64 hi] w fun e w' => e = .returned (.bool c) ∧ w' = w := by
  by_cases h1 : n < lo
  · have hc' : c = true := by rw [← hc]; simp [h1]
    subst hc'
    clear hc
    go_enter Try.func179, Try.ntmps179
    go_wp2_with fail
    go_ret
    exact ⟨rfl, rfl⟩
  · by_cases h2 : hi < n
    · have hc' : c = true := by rw [← hc]; simp [h2]
      subst hc'
      clear hc
      go_enter Try.func179, Try.ntmps179
      go_wp2_with fail
      go_ret
      exact ⟨rfl, rfl⟩
    · have hc' : c = false := by rw [← hc]; simp [h1, h2]
      subst hc'
      clear hc
      go_enter Try.func179, Try.ntmps179
      go_wp2_with fail
      go_ret
      exact ⟨rfl, rfl⟩

theorem row_get {w : World} {a : Option Addr} {n cap : Nat} {zs : List Int} (h : RowZ w a n cap zs) {k : Nat} (hk : k < n) : ∃ x z, a = some x ∧ w.cell? (x.add k) = some (.int .i64 z) ∧ zs[k]? = some z ∧ zs.getD k 0 = z ∧ In64 z := by
  obtain ⟨x, hx, hc⟩ := h.cell k hk
  have hl : k < zs.length := by rw [h.len]; exact hk
  refine ⟨x, _, hx, hc, ?_, rfl, h.bd k hk⟩
  rw [List.getD_eq_getElem?_getD, List.getElem?_eq_getElem hl]; rfl
theorem box_pk {wk u : World} {q : Pk} (hu : wk.alloc (.cells #[.int .i64 q.f, .int .i64 q.t, .int .i64 q.s] 94) = u) : Below wk.heap.size wk u ∧ u.cell? ⟨wk.heap.size, 0, none⟩ = some (.int .i64 q.f) ∧ u.cell? ⟨wk.heap.size, 1, none⟩ = some (.int .i64 q.t) ∧ u.cell? ⟨wk.heap.size, 2, none⟩ = some (.int .i64 q.s) := by
  rw [← hu]; exact ⟨(Below.refl _ _).alloc (Nat.le_refl _) _, cell_new13 rfl, cell_new13 rfl, cell_new13 rfl⟩

set_option maxRecDepth 100000 in
set_option maxHeartbeats 1600000 in
theorem fault15 (a : Option Addr) (n cap : Nat) (l : List Pk) (ad : Option Addr) (nd cd : Nat) (D : List Int) (c : Int) (hc : dcode l D = c) (w : World) (h : PkR w a n cap l) (h2 : RowZ w ad nd cd D) :
    Calls Try.prog 183 #[.slice a n cap, .slice ad nd cd] w (Says (.int .i64 c) w) := by
  have hsm := h.sm
  have H := Lib.hid h
  have R := Lib.hid h2
  have HC := Lib.hid hc
  have HL := Lib.hid (And.intro h.len h2.len)
  have hnd := h2.sm
  obtain ⟨v, hv⟩ : ∃ v, vcode l = v := ⟨_, rfl⟩
  have HV := Lib.hid hv
  clear h h2 hc hv
  go_enter Try.func183, Try.ntmps183
  go_wp2_with fail
  refine (validate_any a n cap l v HV.out _ H.out).mono ?_
  rintro e w1 ⟨rfl, hb⟩
  have HB := Lib.hid hb
  clear hb
  by_cases hv0 : v = 0
  · subst hv0
    by_cases hnn : nd = n
    · subst hnn
      have HG := Lib.hid (show dgo (l.drop 0) (D.drop 0) = c from by rw [List.drop_zero, List.drop_zero, ← HC.out]; unfold dcode; rw [if_pos HV.out, if_pos (by rw [HL.out.1, HL.out.2])])
      go_wp2_with fail
      go_loopw [20] (fun vi wx => ∃ k : Nat, vi = .int .i64 k ∧ k ≤ nd ∧ Hid (dgo (l.drop k) (D.drop k) = c) ∧ Hid (Below w.heap.size w wx)) (fun vi _ => nd - (intOf vi).toNat)
      case atStart => exact ⟨0, by go_num, Nat.zero_le _, HG, HB⟩
      case round =>
        obtain ⟨k, rfl, hk, hG, HW⟩ := hrel
        obtain ⟨wk, rfl⟩ : ∃ u : World, u = wr := ⟨_, rfl⟩
        by_cases hlt : k < nd
        · have hlI : (k : Int) < (nd : Int) := by omega
          obtain ⟨B, off, q, ha, hcs, hq, hbd⟩ := (H.out.under HW.out).at hlt
          obtain ⟨y, x, hy, hcy, hx, _, hx64⟩ := row_get (R.out.under HW.out) hlt
          obtain ⟨c0, c1, c2⟩ := hcs k q hq
          obtain ⟨⟨b1, b2⟩, ⟨b3, b4⟩, b5, b6⟩ := hbd
          have HK := Lib.hid (And.intro hq hx)
          have hst := dgo_step hq hx
          rw [hG.out] at hst
          have HS := Lib.hid hst
          have HCY := Lib.hid hcy
          clear hcs hq hx hst hcy
          subst ha hy
          go_upto_region 9 with fail
          obtain ⟨u, hu⟩ : ∃ u : World, wk.alloc (.cells #[.int .i64 q.f, .int .i64 q.t, .int .i64 q.s] 94) = u := ⟨_, rfl⟩
          obtain ⟨hb, n0, n1, n2⟩ := box_pk hu
          have hyc := (hb.cell (lt_of_cell HCY.out)).trans HCY.out
          have HU := Lib.hid (HW.out.trans (hb.mono HW.out.size))
          rw [hu]
          clear hu hb c0 c1 c2 n0 n2
          by_cases hx1 : x = -1
          · subst hx1
            have HN := Lib.hid (show dgo (l.drop (k + 1)) (D.drop (k + 1)) = c from by rw [HS.out, if_neg (fun h => h.1 rfl)])
            go_quiet (fail)
            go_wp2_with fail
            go_roundw
            case rel => exact ⟨k + 1, by go_num, by omega, HN, HU.out.drewN _⟩
            case measure => first | (simp [intOf]; done) | (simp [intOf]; omega)
          · have hx2 : (x == -1) = false := by simp [hx1]
            have hx3 : (x != -1) = true := by simp [hx1]
            obtain ⟨o, ho⟩ : ∃ o, (decide (x < q.t) || decide (1999 < x)) = o := ⟨_, rfl⟩
            have HO := Lib.hid ho
            clear ho
            cases o
            case false =>
              have HN := Lib.hid (show dgo (l.drop (k + 1)) (D.drop (k + 1)) = c from by
                have h1 := HO.out
                simp only [Bool.or_eq_false_iff, decide_eq_false_iff_not] at h1
                rw [HS.out, if_neg (fun h => by omega)])
              go_quiet (first | (go_at_fn 179; exact Calls.quiet_of_same (outside15 x q.t 1999 _ HO.out _)) | (go_at_call 179; exact Calls.quiet_of_same (outside15 x q.t 1999 _ HO.out _)))
              go_wp2_with fail
              go_roundw
              case rel => exact ⟨k + 1, by go_num, by omega, HN, HU.out.drewN _⟩
              case measure => first | (simp [intOf]; done) | (simp [intOf]; omega)
            case true =>
              have HN := Lib.hid (show c = 2 from by
                have h1 := HO.out
                simp only [Bool.or_eq_true, decide_eq_true_eq] at h1
                rw [HS.out, if_pos ⟨hx1, h1⟩])
              go_quiet (first | (go_at_fn 179; exact Calls.quiet_of_same (outside15 x q.t 1999 _ HO.out _)) | (go_at_call 179; exact Calls.quiet_of_same (outside15 x q.t 1999 _ HO.out _)))
              go_wp2_with fail
              go_ret
              exact ⟨by rw [HN.out]; rfl, HU.out.drewN _⟩
        · obtain rfl : k = nd := by omega
          have hkI : ¬ (k : Int) < (k : Int) := by omega
          go_wp2_with fail
          go_ret
          have h1 := hG.out
          rw [List.drop_eq_nil_of_le (by rw [HL.out.1]; exact Nat.le_refl _)] at h1
          exact ⟨by rw [← h1]; rfl, HW.out⟩
    · have hnI : ¬ (nd : Int) = (n : Int) := by omega
      have hnB : ((nd : Int) == (n : Int)) = false := by simp; omega
      have HN := Lib.hid (show c = 7 from by rw [← HC.out]; unfold dcode; rw [if_pos HV.out, if_neg (by rw [HL.out.1, HL.out.2]; exact hnn)])
      go_wp2_with fail
      go_ret
      exact ⟨by rw [HN.out]; rfl, HB.out⟩
  · have hvB : (v == 0) = false := by simp [hv0]
    have HN := Lib.hid (show c = v from by rw [← HC.out]; unfold dcode; rw [HV.out, if_neg hv0])
    go_wp2_with fail
    go_ret
    exact ⟨by rw [HN.out]; rfl, HB.out⟩

set_option maxRecDepth 100000 in
set_option maxHeartbeats 1600000 in
theorem whole15 (a : Option Addr) (n cap : Nat) (l : List Pk) (fl b v : Int) (hb : In64 b) (hv : wholeA l fl b = v) (w : World) (h : PkR w a n cap l) :
    Calls Try.prog 84 #[.slice a n cap, .int .i64 fl, .int .i64 b] w (Says (.int .i64 v) w) := by
  have H := Lib.hid h
  have HA := Lib.hid hv
  obtain ⟨hb1, hb2⟩ := hb
  obtain ⟨v0, hv0⟩ : ∃ v, vcode l = v := ⟨_, rfl⟩
  have HV := Lib.hid hv0
  clear h hv hv0
  go_enter Try.func84, Try.ntmps84
  go_wp2_with fail
  refine (validate_any a n cap l v0 HV.out _ H.out).mono ?_
  rintro e w1 ⟨rfl, hb⟩
  have HB := Lib.hid hb
  have H1 := Lib.hid (H.out.under hb)
  clear hb
  by_cases hv0 : v0 = 0
  · subst hv0
    go_wp2_with fail
    refine (select13 a n cap l fl _ H1.out).mono ?_
    rintro e w2 ⟨a2, n2, c2, rfl, hb2, hr2, hx2⟩
    have HB2 := Lib.hid (HB.out.trans (hb2.mono HB.out.size))
    have R2 := Lib.hid hr2
    have hlen := hr2.len
    have hn60 : n2 ≤ 60 := by
      rw [← hlen]
      refine Nat.le_trans (sel_le fl l) ?_
      have := HV.out
      unfold vcode at this
      split at this
      · cases this
      · omega
    have HL := Lib.hid hlen
    have HOK := Lib.hid (sel_bd (fl := fl) HV.out)
    have HG := Lib.hid (show whl b 0 ((sel fl l).drop 0) = v from by rw [List.drop_zero, ← HA.out]; unfold wholeA; rw [if_pos HV.out])
    clear hb2 hr2 hx2 hlen
    go_wp2_with fail
    go_loopw [17, 7] (fun s17 s7 wx => ∃ (k : Nat) (s : Int), s17 = .int .i64 k ∧ s7 = .int .i64 s ∧ k ≤ n2 ∧ 0 ≤ s ∧ s ≤ 1500 * (k : Int) ∧ Hid (whl b s ((sel fl l).drop k) = v) ∧ Hid (Below w2.heap.size w2 wx)) (fun s17 _ _ => n2 - (intOf s17).toNat)
    case atStart => exact ⟨0, 0, by go_num, rfl, Nat.zero_le _, Int.le_refl _, by omega, HG, Below.refl _ _⟩
    case round =>
      obtain ⟨k, s, rfl, rfl, hk, hs0, hs1, hG, HW⟩ := hrel
      obtain ⟨wk, rfl⟩ : ∃ u : World, u = wr := ⟨_, rfl⟩
      by_cases hlt : k < n2
      · have hlI : (k : Int) < (n2 : Int) := by omega
        obtain ⟨B, off, q, ha, hcs, hq, hbd⟩ := (R2.out.under HW.out).at hlt
        obtain ⟨c0, c1, c2'⟩ := hcs k q hq
        obtain ⟨o1, o2, o3, o4, o5, o6⟩ := (okP_iff q).1 (HOK.out q (List.mem_of_getElem? hq))
        have hst := whl_step (b := b) (s := s) hq
        rw [hG.out] at hst
        have HS := Lib.hid hst
        clear hcs hq hst hbd
        subst ha
        go_upto_region 7 with fail
        obtain ⟨u, hu⟩ : ∃ u : World, wk.alloc (.cells #[.int .i64 q.f, .int .i64 q.t, .int .i64 q.s] 94) = u := ⟨_, rfl⟩
        obtain ⟨hb, n0, n1, n2'⟩ := box_pk hu
        have HU := Lib.hid (HW.out.trans (hb.mono HW.out.size))
        rw [hu]
        clear hu hb c0 c1 c2' n0 n1
        have hwr : IntKind.i64.wrap (s + q.s) = s + q.s := IntWalk.i64_in _ ⟨by omega, by omega⟩
        by_cases hbs : b < s + q.s
        · have HN := Lib.hid (show v = s from by rw [HS.out, if_pos hbs])
          go_wp2_with fail
          go_ret
          exact ⟨by rw [HN.out]; rfl, HB2.out.trans (HU.out.mono HB2.out.size)⟩
        · have HN := Lib.hid (show whl b (s + q.s) ((sel fl l).drop (k + 1)) = v from by rw [HS.out, if_neg hbs])
          go_wp2_with fail
          go_roundw
          case rel => exact ⟨k + 1, s + q.s, by go_num, rfl, by omega, by omega, by omega, HN, HU⟩
          case measure => first | (simp [intOf]; done) | (simp [intOf]; omega)
      · obtain rfl : k = n2 := by omega
        have hkI : ¬ (k : Int) < (k : Int) := by omega
        go_wp2_with fail
        go_ret
        have h1 := hG.out
        rw [List.drop_eq_nil_of_le (by rw [HL.out]; exact Nat.le_refl _)] at h1
        exact ⟨by rw [← h1]; rfl, HB2.out.trans (HW.out.mono HB2.out.size)⟩
  · have hvB : (v0 == 0) = false := by simp [hv0]
    have HN := Lib.hid (show v = 0 from by rw [← HA.out]; unfold wholeA; rw [HV.out, if_neg hv0])
    go_wp2_with fail
    go_ret
    exact ⟨by rw [HN.out]; rfl, HB.out⟩
end Go.Proofs.Ythljhddnfflpjaa

namespace Go.Proofs.Ythljhddnfflpjaa
open Go.RowKit
set_option linter.unusedSimpArgs false
set_option linter.unusedVariables false

/-- A block whose first N cells are numbers. -/
def IntO (W : World) (M N : Nat) (F : Nat → Int) : Prop := ∃ cs, W.heap[M]? = some (.cells cs 3 (0, 0)) ∧ N ≤ cs.size ∧ ∀ k, k < N → cs[k]? = some (.int .i64 (F k))
section
variable {W V : World} {M N : Nat} {F G : Nat → Int}
theorem IntO.lt (h : IntO W M N F) : M < W.heap.size := by obtain ⟨cs, h1, _⟩ := h; exact (Array.getElem?_eq_some_iff.1 h1).1
theorem IntO.cell (h : IntO W M N F) {k : Nat} (hk : k < N) : W.cell? ⟨M, k, none⟩ = some (.int .i64 (F k)) := by
  obtain ⟨cs, h1, h2, h3⟩ := h
  rw [← h3 k hk]; simp [World.cell?, h1]
theorem IntO.frozen (h : IntO W M N F) (o : Nat) : W.frozen? ⟨M, o, none⟩ = false := by
  obtain ⟨cs, h1, h2, h3⟩ := h
  simp [World.frozen?, h1]
theorem IntO.of_block (h : IntO W M N F) (hb : V.heap[M]? = W.heap[M]?) : IntO V M N F := by obtain ⟨cs, h1, h2⟩ := h; exact ⟨cs, hb.trans h1, h2⟩
theorem IntO.under (h : IntO W M N F) (hb : Below W.heap.size W V) : IntO V M N F := h.of_block (hb.block _ h.lt)
theorem IntO.congr (h : IntO W M N F) (he : ∀ k, k < N → F k = G k) : IntO W M N G := by obtain ⟨cs, h1, h2, h3⟩ := h; exact ⟨cs, h1, h2, fun k hk => by rw [h3 k hk, he k hk]⟩
theorem IntO.set (h : IntO W M N F) {j : Nat} (hj : j < N) (v : Int) : IntO (W.setCell ⟨M, j, none⟩ (.int .i64 v)) M N (fun k => if k = j then v else F k) := by
  obtain ⟨cs, h1, h2, h3⟩ := h
  refine ⟨cs.setIfInBounds j (.int .i64 v), by simp [World.setCell, Array.getElem?_modify, h1], by simpa using h2, fun k hk => ?_⟩
  show _ = some (Value.int .i64 (if k = j then v else F k))
  by_cases e : k = j
  · subst e; rw [if_pos rfl, Array.getElem?_setIfInBounds_self_of_lt (by omega)]
  · rw [if_neg e, Array.getElem?_setIfInBounds_ne (fun h => e h.symm)]; exact h3 k hk
theorem IntO.row {cap : Nat} (h : IntO W M N F) (h1 : N ≤ cap) (h2 : cap ≤ 9223372036854775807) (h3 : N ≤ 1000000) {zs : List Int} (hl : zs.length = N) (hz : ∀ k, k < N → zs.getD k 0 = F k) (hb : ∀ k, k < N → In64 (F k)) : RowZ W (some ⟨M, 0, none⟩) N cap zs :=
  ⟨hl, h1, by omega, h2, fun i hi => ⟨_, rfl, by
    have ea : ((⟨M, 0, none⟩ : Addr).add i) = ⟨M, i, none⟩ := by unfold Addr.add; split <;> simp_all
    rw [ea, hz i hi]; exact h.cell hi⟩, fun i hi => by rw [hz i hi]; exact hb i hi⟩
end
theorem intO_of_owns {w : World} {base n : Nat} {v : Value} {zs : List Int} (h : w.ownsRow base 3 1 v n (zs.map (Value.int .i64))) :
    zs.length = n ∧ ∃ a cap, v = .slice a n cap ∧ n ≤ cap ∧ cap ≤ 9223372036854775807 ∧ (a = none ∧ n = 0 ∨ ∃ g, a = some ⟨g, 0, none⟩ ∧ base ≤ g ∧ IntO w g n (fun k => zs.getD k 0)) := by
  obtain ⟨hl, hr⟩ := h
  rw [List.length_map, Nat.mul_one] at hl
  refine ⟨hl, ?_⟩
  rcases hr with ⟨rfl, h0⟩ | ⟨g, cap, cur, rfl, hbase, hg, hnc, hcm, hsz, htake⟩
  · exact ⟨none, 0, by rw [h0], by omega, by omega, .inl ⟨rfl, h0⟩⟩
  · refine ⟨some ⟨g, 0, none⟩, cap, rfl, hnc, by unfold maxLen at hcm; omega, .inr ⟨g, rfl, hbase, cur, hg, by omega, fun k hk => ?_⟩⟩
    have h1 : (zs.map (Value.int .i64))[k]? = some (.int .i64 (zs.getD k 0)) := by
      rw [List.getElem?_map, List.getD_eq_getElem?_getD, List.getElem?_eq_getElem (by omega)]; rfl
    rw [← htake, List.getElem?_take, if_pos (by omega)] at h1
    simpa using h1

set_option maxRecDepth 100000 in
set_option maxHeartbeats 800000 in
/-- A copy of numbers that is a row of one's own. -/
theorem clone15 (a : Option Addr) (n cap : Nat) (zs : List Int) (w : World) (h : RowZ w a n cap zs) (hn : n ≤ 1000000) :
    Calls Try.prog 218 #[.slice a n cap] w fun e w' => ∃ v, e = .returned v ∧ w'.ownsRow w.heap.size 3 1 v n (zs.map (Value.int .i64)) ∧ Below w.heap.size w w' := by
  obtain ⟨i0, hi, hz0, hz1, hz2⟩ := info_parts info_int
  have H := Lib.hid h
  clear h
  cases a with
  | none =>
    obtain rfl : n = 0 := by
      rcases Nat.eq_zero_or_pos n with h0 | h0
      · exact h0
      · obtain ⟨x, hx, _⟩ := H.out.cell 0 h0; cases hx
    have hl0 : zs = [] := List.length_eq_zero_iff.1 H.out.len
    subst hl0
    have hnil := fun (w : World) => Lib.run_eql_slice_nil (P := Try.prog) w 22 3 none 0 cap 0 0 Try.underlying22
    go_enter Try.func218, Try.ntmps218
    go_wp2_with fail
    go_ret
    exact ⟨_, rfl, World.ownsRow_nil _ _ _ _, Below.refl _ _⟩
  | some x =>
    have hnil := fun (w : World) => Lib.run_eql_slice_nil (P := Try.prog) w 22 3 (some x) n cap 0 0 Try.underlying22
    go_enter Try.func218, Try.ntmps218
    go_wp2_with (at_builtin; refine wpList_append_own _ rfl _ _ 22 rfl w.heap.size 3 i0 (.int .i64 0) 1 8 Try.underlying22 hi hz0 hz1 hz2 rfl (by decide) _ _ _ rfl (World.ownsRow_made w #[] 0 (Nat.le_refl _) (Nat.zero_le _) rfl) x n cap (zs.map (Value.int .i64)) rfl ?cl ?c1 ?c2 ?c3 ?c4 ?c5 ?_)
    case cl => rw [List.length_map, Nat.mul_one]; exact H.out.len
    case c1 =>
      intro j u hj
      rw [List.getElem?_map, Option.map_eq_some_iff] at hj
      obtain ⟨z, hz, rfl⟩ := hj
      have hjn : j < zs.length := (List.getElem?_eq_some_iff.1 hz).1
      obtain ⟨x', hx, hc⟩ := (H.out.alloc _).cell j (by rw [H.out.len] at hjn; exact hjn)
      obtain rfl : x = x' := Option.some.inj hx
      rw [show zs.getD j 0 = z by simp [List.getD, hz]] at hc
      exact hc
    case c2 => intro u hu; simp at hu; obtain ⟨z, _, rfl⟩ := hu; rfl
    case c3 => unfold maxLen; omega
    case c4 => omega
    case c5 => simp
    · intro v' w1 hown' hgrow _
      have HO := Lib.hid hown'
      have HG := Lib.hid hgrow
      clear hown' hgrow
      go_wp2_with fail
      go_ret
      exact ⟨_, rfl, by first | exact HO.out | (have := HO.out; simpa using this), ((Below.refl _ _).alloc (Nat.le_refl _) _).grown HG.out (by simp) (fun j hj => by cases hj; exact Nat.le_refl _)⟩

/-- The delay of the packet at a place. -/
def delAt (l : List Pk) (D : List Int) (i : Nat) : Int := if D.getD i 0 = -1 then -1 else D.getD i 0 - (l.getD i default).t
def delX (l : List Pk) (D : List Int) : List Int := if dcode l D = 0 then (List.range l.length).map (delAt l D) else []
theorem delX_at {l : List Pk} {D : List Int} (h : dcode l D = 0) {i : Nat} (hi : i < l.length) : (delX l D).getD i 0 = delAt l D i := by
  unfold delX
  rw [if_pos h, List.getD_eq_getElem?_getD, List.getElem?_map, List.getElem?_range hi]; rfl
/-- A list of numbers and an error are handed back. -/
def GivesIE (zs : List Int) (c : Int) (w : World) (e : Ending) (w' : World) : Prop :=
  ∃ a n cap, e = .returned (.tuple #[.slice a n cap, .int .i64 c]) ∧ Below w.heap.size w w' ∧ RowZ w' a n cap zs ∧ ∀ x, a = some x → w.heap.size ≤ x.block
theorem row_nil15 (w : World) (c : Nat) (hc : c ≤ 9223372036854775807) (a : Option Addr) : RowZ w a 0 c [] := ⟨rfl, Nat.zero_le _, Nat.zero_le _, hc, fun i hi => absurd hi (Nat.not_lt_zero _), fun i hi => absurd hi (Nat.not_lt_zero _)⟩

set_option maxRecDepth 100000 in
set_option maxHeartbeats 3200000 in
theorem delays15 (a : Option Addr) (n cap : Nat) (l : List Pk) (ad : Option Addr) (nd cd : Nat) (D : List Int) (w : World) (h : PkR w a n cap l) (h2 : RowZ w ad nd cd D) :
    Calls Try.prog 180 #[.slice a n cap, .slice ad nd cd] w (GivesIE (delX l D) (dcode l D) w) := by
  have H := Lib.hid h
  have R := Lib.hid h2
  have hlen := h.len
  have hnd := h2.len
  obtain ⟨c, hc⟩ : ∃ c, dcode l D = c := ⟨_, rfl⟩
  have HC := Lib.hid hc
  rw [hc]
  clear h h2 hc
  by_cases hc0 : c = 0
  · subst hc0
    have hd := HC.out
    unfold dcode at hd
    have hv : vcode l = 0 := by
      split at hd
      · assumption
      · rename_i hn; exact absurd hd hn
    rw [if_pos hv] at hd
    have hl : D.length = l.length := by
      split at hd
      · assumption
      · cases hd
    rw [if_pos hl] at hd
    have hn60 : n ≤ 60 := by rw [← hlen]; exact (vcode_ok hv).1
    obtain rfl : nd = n := by omega
    have HDB := Lib.hid (show ∀ i, i < nd → D.getD i 0 ≤ 1999 ∧ -1 ≤ D.getD i 0 ∧ 0 ≤ (l.getD i default).t ∧ (l.getD i default).t ≤ 2000 from fun i hi => by
      have h3 := (okP_iff _).1 ((vcode_ok hv).2.1 (l.getD i default) (by rw [List.getD_eq_getElem?_getD, List.getElem?_eq_getElem (by omega)]; exact List.getElem_mem _))
      rcases dgo_ok l D hl.symm hd i (by omega) with h1 | ⟨h1, h2⟩ <;> omega)
    have HLN := Lib.hid hlen
    clear hv hl hd hlen hnd
    go_enter Try.func180, Try.ntmps180
    go_wp2_with fail
    refine (fault15 a nd cap l ad nd cd D 0 HC.out _ H.out R.out).mono ?_
    rintro e w1 ⟨rfl, hb1⟩
    have B1 := Lib.hid hb1
    clear hb1
    go_wp2_with fail
    refine (clone15 ad nd cd D _ (R.out.under B1.out) (by omega)).mono ?_
    rintro e w2 ⟨v, rfl, ho, hb2⟩
    obtain ⟨_, a2, c2, rfl, hc1, hc2, hg⟩ := intO_of_owns ho
    have B2 := Lib.hid (B1.out.trans (hb2.mono B1.out.size))
    have hsz1 := B1.out.size
    have HG := Lib.hid (show nd = 0 ∨ ∃ g, a2 = some ⟨g, 0, none⟩ ∧ w.heap.size ≤ g ∧ IntO w2 g nd (fun k => if k < 0 then delAt l D k else D.getD k 0) from by
      rcases hg with ⟨_, h0⟩ | ⟨g, ha, hgw, ho⟩
      · exact .inl h0
      · exact .inr ⟨g, ha, by omega, ho.congr fun k _ => by rw [if_neg (by omega)]⟩)
    have HX2 := Lib.hid (show ∀ x, a2 = some x → w.heap.size ≤ x.block from fun x hx => by
      rcases hg with ⟨h0, _⟩ | ⟨g, ha, hgw, _⟩
      · rw [h0] at hx; cases hx
      · rw [ha] at hx; cases hx; show w.heap.size ≤ g; omega)
    clear ho hb2 hg
    go_wp2_with fail
    go_loopw [20] (fun s20 wx => ∃ k : Nat, s20 = .int .i64 k ∧ k ≤ nd ∧ Hid (Below w.heap.size w wx) ∧ Hid (nd = 0 ∨ ∃ g, a2 = some ⟨g, 0, none⟩ ∧ w.heap.size ≤ g ∧ IntO wx g nd (fun i => if i < k then delAt l D i else D.getD i 0))) (fun s20 _ => nd - (intOf s20).toNat)
    case atStart => exact ⟨0, by go_num, Nat.zero_le _, B2, HG⟩
    case round =>
      obtain ⟨k, rfl, hk, HW, HGk⟩ := hrel
      obtain ⟨wk, rfl⟩ : ∃ u : World, u = wr := ⟨_, rfl⟩
      by_cases hlt : k < nd
      · have hlI : (k : Int) < (nd : Int) := by omega
        obtain ⟨B, off, q, ha, hcs, hq, hbd⟩ := (H.out.under HW.out).at hlt
        obtain ⟨y, x, hy, hcy, hx, hxd, hx64⟩ := row_get (R.out.under HW.out) hlt
        obtain ⟨c0, c1, c2'⟩ := hcs k q hq
        rcases HGk.out with h0 | ⟨g, hga, hgw, ho⟩
        · omega
        have hdb := HDB.out k hlt
        have hqd : l.getD k default = q := by rw [List.getD_eq_getElem?_getD, hq]; rfl
        rw [hxd, hqd] at hdb
        obtain ⟨d1, d2, d3, d4⟩ := hdb
        have hda : delAt l D k = if x = -1 then -1 else x - q.t := by unfold delAt; rw [hxd, hqd]
        have HDA := Lib.hid hda
        have HXD := Lib.hid hxd
        have HCY := Lib.hid hcy
        clear hcs hq hx hcy hbd hx64 hqd hda hxd
        have HGG := Lib.hid (And.intro hgw ho)
        clear hgw ho
        subst ha hy hga
        go_upto_region 8 with fail
        obtain ⟨u, hu⟩ : ∃ u : World, wk.alloc (.cells #[.int .i64 q.f, .int .i64 q.t, .int .i64 q.s] 94) = u := ⟨_, rfl⟩
        obtain ⟨hb, n0, n1, n2⟩ := box_pk hu
        have hyc := (hb.cell (lt_of_cell HCY.out)).trans HCY.out
        have HU := Lib.hid (HW.out.trans (hb.mono HW.out.size))
        have HO2 := Lib.hid (HGG.out.2.under hb)
        have hgc := HO2.out.cell hlt
        rw [if_neg (Nat.lt_irrefl k), HXD.out] at hgc
        have hgf := HO2.out.frozen
        rw [hu]
        clear hu hb c0 c1 c2' n0 n2
        by_cases hx1 : x = -1
        · subst hx1
          have HN := Lib.hid (show IntO u g nd (fun i => if i < k + 1 then delAt l D i else D.getD i 0) from HO2.out.congr fun i hi => by
            by_cases e : i = k
            · subst e; rw [if_neg (Nat.lt_irrefl _), if_pos (by omega), HDA.out, if_pos rfl, HXD.out]
            · by_cases e2 : i < k
              · rw [if_pos e2, if_pos (by omega)]
              · rw [if_neg e2, if_neg (by omega)])
          go_wp2_with fail
          go_roundw
          case rel => exact ⟨k + 1, by go_num, by omega, HU, .inr ⟨g, rfl, HGG.out.1, HN.out⟩⟩
          case measure => first | (simp [intOf]; done) | (simp [intOf]; omega)
        · have hx2 : (x == -1) = false := by simp [hx1]
          have hx3 : (x != -1) = true := by simp [hx1]
          have hwr : IntKind.i64.wrap (x - q.t) = x - q.t := IntWalk.i64_in _ ⟨by omega, by omega⟩
          have HN := Lib.hid (show IntO (u.setCell ⟨g, k, none⟩ (.int .i64 (x - q.t))) g nd (fun i => if i < k + 1 then delAt l D i else D.getD i 0) from (HO2.out.set hlt (x - q.t)).congr fun i hi => by
            by_cases e : i = k
            · subst e; rw [if_pos rfl, if_pos (by omega), HDA.out, if_neg hx1]
            · rw [if_neg e]
              by_cases e2 : i < k
              · rw [if_pos e2, if_pos (by omega)]
              · rw [if_neg e2, if_neg (by omega)])
          go_wp2_with fail
          go_region
          all_goals go_wp2_with fail
          go_roundw
          case rel => exact ⟨k + 1, by go_num, by omega, (HU.out.setCell (p := ⟨g, k, none⟩) HGG.out.1 _).drew, .inr ⟨g, rfl, HGG.out.1, HN.out⟩⟩
          case measure => first | (simp [intOf]; done) | (simp [intOf]; omega)
      · obtain rfl : k = nd := by omega
        have hkI : ¬ (k : Int) < (k : Int) := by omega
        go_wp2_with fail
        refine bodyPost_ret (v := .tuple #[.slice a2 k c2, .int .i64 0]) (by simp [results, Try.results180, go_sem]) rfl ?_
        have hlx : (delX l D).length = k := by unfold delX; rw [if_pos HC.out]; simp [HLN.out]
        rcases HGk.out with h0 | ⟨g, rfl, hgw, ho⟩
        · subst h0
          have e0 : delX l D = [] := List.length_eq_zero_iff.1 hlx
          refine ⟨a2, 0, c2, rfl, HW.out, by rw [e0]; exact row_nil15 _ _ hc2 _, HX2.out⟩
        · refine ⟨_, k, c2, rfl, HW.out, ho.row hc1 hc2 (by omega) hlx (fun i hi => by rw [if_pos hi]; exact delX_at HC.out (by rw [HLN.out]; exact hi)) (fun i hi => ?_), fun x hx => by cases hx; exact hgw⟩
          rw [if_pos hi]
          have := HDB.out i hi
          unfold delAt
          split
          · exact ⟨by decide, by decide⟩
          · exact ⟨by omega, by omega⟩
  · have hF : delX l D = [] := by unfold delX; rw [if_neg (by rw [HC.out]; exact hc0)]
    rw [hF]
    have hcB : (c == 0) = false := by simp [hc0]
    clear hF
    go_enter Try.func180, Try.ntmps180
    go_wp2_with fail
    refine (fault15 a n cap l ad nd cd D c HC.out _ H.out R.out).mono ?_
    rintro e w1 ⟨rfl, hb1⟩
    have B1 := Lib.hid hb1
    clear hb1
    go_wp2_with fail
    refine bodyPost_ret (v := .tuple #[.slice none 0 0, .int .i64 c]) (by simp [results, Try.results180, go_sem]) rfl ?_
    exact ⟨none, 0, 0, rfl, B1.out, row_nil15 _ _ (by omega) _, (fun x hx => by cases hx)⟩
end Go.Proofs.Ythljhddnfflpjaa
