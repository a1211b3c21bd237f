/- Package packet: the fault of a trace with its ticks, Whole. By the verifier's side. -/
import Derived.Test.YtkienpbmoilheaaGreatARTrARTrBRTrG
import Derived.Test.YtkienpbmoilheaaGreatATrMAvMAvLPkM
import Derived.Test.YtkienpbmoilheaaGreatAAvGAvH
import Derived.Test.YtkienpbmoilheaaGreatATrETrFTrI
import Derived.Test.YtkienpbmoilheaaGreatATrXTrV
import Derived.Test.YtkienpbmoilheaaGreatACurCCurDCurE
namespace Go.Proofs.YtkienpbmoilheaaGreat
open Go.RowKit
set_option linter.unusedSimpArgs false
set_option linter.unusedVariables false

set_option maxHeartbeats 400000 in
theorem outside15 (n lo hi : Int) (c : Bool) (hc : (decide (n < lo) || decide (hi < n)) = c) (w : World) :
    Calls Tryz.prog 34 #[.int .i64 n, .int .i64 lo, .int .i64 hi] w fun e w' => e = .returned (.bool c) ∧ w' = w := by
  by_cases h1 : n < lo
  · have hc' : c = true := by rw [← hc]; simp [h1]
    subst hc'
    clear hc
    go_enter Tryz.func34, Tryz.ntmps34
    go_wp2_with fail
    go_ret
    exact ⟨rfl, rfl⟩
  · by_cases h2 : hi < n
    · have hc' : c = true := by rw [← hc]; simp [h2]
      subst hc'
      clear hc
      go_enter Tryz.func34, Tryz.ntmps34
      go_wp2_with fail
      go_ret
      exact ⟨rfl, rfl⟩
    · have hc' : c = false := by rw [← hc]; simp [h1, h2]
      subst hc'
      clear hc
      go_enter Tryz.func34, Tryz.ntmps34
      go_wp2_with fail
      go_ret
      exact ⟨rfl, rfl⟩

theorem row_get {w : World} {a : Option Addr} {n cap : Nat} {zs : List Int} (h : RowZ w a n cap zs) {k : Nat} (hk : k < n) : ∃ x z, a = some x ∧ w.cell? (x.add k) = some (.int .i64 z) ∧ zs[k]? = some z ∧ zs.getD k 0 = z ∧ In64 z := by
  obtain ⟨x, hx, hc⟩ := h.cell k hk
  have hl : k < zs.length := by rw [h.len]; exact hk
  refine ⟨x, _, hx, hc, ?_, rfl, h.bd k hk⟩
  rw [List.getD_eq_getElem?_getD, List.getElem?_eq_getElem hl]; rfl
theorem box_pk {wk u : World} {q : Pk} (hu : wk.alloc (.cells #[.int .i64 q.f, .int .i64 q.t, .int .i64 q.s] 54) = u) : Below wk.heap.size wk u ∧ u.cell? ⟨wk.heap.size, 0, none⟩ = some (.int .i64 q.f) ∧ u.cell? ⟨wk.heap.size, 1, none⟩ = some (.int .i64 q.t) ∧ u.cell? ⟨wk.heap.size, 2, none⟩ = some (.int .i64 q.s) := by
  rw [← hu]; exact ⟨(Below.refl _ _).alloc (Nat.le_refl _) _, cell_new13 rfl, cell_new13 rfl, cell_new13 rfl⟩

set_option maxRecDepth 100000 in
set_option maxHeartbeats 1600000 in
theorem fault15 (a : Option Addr) (n cap : Nat) (l : List Pk) (ad : Option Addr) (nd cd : Nat) (D : List Int) (c : Int) (hc : dcode l D = c) (w : World) (h : PkR w a n cap l) (h2 : RowZ w ad nd cd D) :
    Calls Tryz.prog 42 #[.slice a n cap, .slice ad nd cd] w (Says (.int .i64 c) w) := by
  have hsm := h.sm
  have H := Lib.hid h
  have R := Lib.hid h2
  have HC := Lib.hid hc
  have HL := Lib.hid (And.intro h.len h2.len)
  have hnd := h2.sm
  obtain ⟨v, hv⟩ : ∃ v, vcode l = v := ⟨_, rfl⟩
  have HV := Lib.hid hv
  clear h h2 hc hv
  go_enter Tryz.func42, Tryz.ntmps42
  go_wp2_with fail
  refine (validate_any a n cap l v HV.out _ H.out).mono ?_
  rintro e w1 ⟨rfl, hb⟩
  have HB := Lib.hid hb
  clear hb
  by_cases hv0 : v = 0
  · subst hv0
    by_cases hnn : nd = n
    · subst hnn
      have HG := Lib.hid (show dgo (l.drop 0) (D.drop 0) = c from by rw [List.drop_zero, List.drop_zero, ← HC.out]; unfold dcode; rw [if_pos HV.out, if_pos (by rw [HL.out.1, HL.out.2])])
      go_wp2_with fail
      go_loopw [20] (fun vi wx => ∃ k : Nat, vi = .int .i64 k ∧ k ≤ nd ∧ Hid (dgo (l.drop k) (D.drop k) = c) ∧ Hid (Below w.heap.size w wx)) (fun vi _ => nd - (intOf vi).toNat)
      case atStart => exact ⟨0, by go_num, Nat.zero_le _, HG, HB⟩
      case round =>
        obtain ⟨k, rfl, hk, hG, HW⟩ := hrel
        obtain ⟨wk, rfl⟩ : ∃ u : World, u = wr := ⟨_, rfl⟩
        by_cases hlt : k < nd
        · have hlI : (k : Int) < (nd : Int) := by omega
          obtain ⟨B, off, q, ha, hcs, hq, hbd⟩ := (H.out.under HW.out).at hlt
          obtain ⟨y, x, hy, hcy, hx, _, hx64⟩ := row_get (R.out.under HW.out) hlt
          obtain ⟨c0, c1, c2⟩ := hcs k q hq
          obtain ⟨⟨b1, b2⟩, ⟨b3, b4⟩, b5, b6⟩ := hbd
          have HK := Lib.hid (And.intro hq hx)
          have hst := dgo_step hq hx
          rw [hG.out] at hst
          have HS := Lib.hid hst
          have HCY := Lib.hid hcy
          clear hcs hq hx hst hcy
          subst ha hy
          go_upto_region 9 with fail
          obtain ⟨u, hu⟩ : ∃ u : World, wk.alloc (.cells #[.int .i64 q.f, .int .i64 q.t, .int .i64 q.s] 54) = u := ⟨_, rfl⟩
          obtain ⟨hb, n0, n1, n2⟩ := box_pk hu
          have hyc := (hb.cell (lt_of_cell HCY.out)).trans HCY.out
          have HU := Lib.hid (HW.out.trans (hb.mono HW.out.size))
          rw [hu]
          clear hu hb c0 c1 c2 n0 n2
          by_cases hx1 : x = -1
          · subst hx1
            have HN := Lib.hid (show dgo (l.drop (k + 1)) (D.drop (k + 1)) = c from by rw [HS.out, if_neg (fun h => h.1 rfl)])
            go_quiet (fail)
            go_wp2_with fail
            go_roundw
            case rel => exact ⟨k + 1, by go_num, by omega, HN, HU.out.drewN _⟩
            case measure => first | (simp [intOf]; done) | (simp [intOf]; omega)
          · have hx2 : (x == -1) = false := by simp [hx1]
            have hx3 : (x != -1) = true := by simp [hx1]
            obtain ⟨o, ho⟩ : ∃ o, (decide (x < q.t) || decide (1999 < x)) = o := ⟨_, rfl⟩
            have HO := Lib.hid ho
            clear ho
            cases o
            case false =>
              have HN := Lib.hid (show dgo (l.drop (k + 1)) (D.drop (k + 1)) = c from by
                have h1 := HO.out
                simp only [Bool.or_eq_false_iff, decide_eq_false_iff_not] at h1
                rw [HS.out, if_neg (fun h => by omega)])
              go_quiet (first | (go_at_fn 34; exact Calls.quiet_of_same (outside15 x q.t 1999 _ HO.out _)) | (go_at_call 34; exact Calls.quiet_of_same (outside15 x q.t 1999 _ HO.out _)))
              go_wp2_with fail
              go_roundw
              case rel => exact ⟨k + 1, by go_num, by omega, HN, HU.out.drewN _⟩
              case measure => first | (simp [intOf]; done) | (simp [intOf]; omega)
            case true =>
              have HN := Lib.hid (show c = 2 from by
                have h1 := HO.out
                simp only [Bool.or_eq_true, decide_eq_true_eq] at h1
                rw [HS.out, if_pos ⟨hx1, h1⟩])
              go_quiet (first | (go_at_fn 34; exact Calls.quiet_of_same (outside15 x q.t 1999 _ HO.out _)) | (go_at_call 34; exact Calls.quiet_of_same (outside15 x q.t 1999 _ HO.out _)))
              go_wp2_with fail
              go_ret
              exact ⟨by rw [HN.out]; rfl, HU.out.drewN _⟩
        · obtain rfl : k = nd := by omega
          have hkI : ¬ (k : Int) < (k : Int) := by omega
          go_wp2_with fail
          go_ret
          have h1 := hG.out
          rw [List.drop_eq_nil_of_le (by rw [HL.out.1]; exact Nat.le_refl _)] at h1
          exact ⟨by rw [← h1]; rfl, HW.out⟩
    · have hnI : ¬ (nd : Int) = (n : Int) := by omega
      have hnB : ((nd : Int) == (n : Int)) = false := by simp; omega
      have HN := Lib.hid (show c = 7 from by rw [← HC.out]; unfold dcode; rw [if_pos HV.out, if_neg (by rw [HL.out.1, HL.out.2]; exact hnn)])
      go_wp2_with fail
      go_ret
      exact ⟨by rw [HN.out]; rfl, HB.out⟩
  · have hvB : (v == 0) = false := by simp [hv0]
    have HN := Lib.hid (show c = v from by rw [← HC.out]; unfold dcode; rw [HV.out, if_neg hv0])
    go_wp2_with fail
    go_ret
    exact ⟨by rw [HN.out]; rfl, HB.out⟩

set_option maxRecDepth 100000 in
set_option maxHeartbeats 1600000 in
theorem whole15 (a : Option Addr) (n cap : Nat) (l : List Pk) (fl b v : Int) (hb : In64 b) (hv : wholeA l fl b = v) (w : World) (h : PkR w a n cap l) :
    Calls Tryz.prog 27 #[.slice a n cap, .int .i64 fl, .int .i64 b] w (Says (.int .i64 v) w) := by
  have H := Lib.hid h
  have HA := Lib.hid hv
  obtain ⟨hb1, hb2⟩ := hb
  obtain ⟨v0, hv0⟩ : ∃ v, vcode l = v := ⟨_, rfl⟩
  have HV := Lib.hid hv0
  clear h hv hv0
  go_enter Tryz.func27, Tryz.ntmps27
  go_wp2_with fail
  refine (validate_any a n cap l v0 HV.out _ H.out).mono ?_
  rintro e w1 ⟨rfl, hb⟩
  have HB := Lib.hid hb
  have H1 := Lib.hid (H.out.under hb)
  clear hb
  by_cases hv0 : v0 = 0
  · subst hv0
    go_wp2_with fail
    refine (select13 a n cap l fl _ H1.out).mono ?_
    rintro e w2 ⟨a2, n2, c2, rfl, hb2, hr2, hx2⟩
    have HB2 := Lib.hid (HB.out.trans (hb2.mono HB.out.size))
    have R2 := Lib.hid hr2
    have hlen := hr2.len
    have hn60 : n2 ≤ 60 := by
      rw [← hlen]
      refine Nat.le_trans (sel_le fl l) ?_
      have := HV.out
      unfold vcode at this
      split at this
      · cases this
      · omega
    have HL := Lib.hid hlen
    have HOK := Lib.hid (sel_bd (fl := fl) HV.out)
    have HG := Lib.hid (show whl b 0 ((sel fl l).drop 0) = v from by rw [List.drop_zero, ← HA.out]; unfold wholeA; rw [if_pos HV.out])
    clear hb2 hr2 hx2 hlen
    go_wp2_with fail
    go_loopw [17, 7] (fun s17 s7 wx => ∃ (k : Nat) (s : Int), s17 = .int .i64 k ∧ s7 = .int .i64 s ∧ k ≤ n2 ∧ 0 ≤ s ∧ s ≤ 1500 * (k : Int) ∧ Hid (whl b s ((sel fl l).drop k) = v) ∧ Hid (Below w2.heap.size w2 wx)) (fun s17 _ _ => n2 - (intOf s17).toNat)
    case atStart => exact ⟨0, 0, by go_num, rfl, Nat.zero_le _, Int.le_refl _, by omega, HG, Below.refl _ _⟩
    case round =>
      obtain ⟨k, s, rfl, rfl, hk, hs0, hs1, hG, HW⟩ := hrel
      obtain ⟨wk, rfl⟩ : ∃ u : World, u = wr := ⟨_, rfl⟩
      by_cases hlt : k < n2
      · have hlI : (k : Int) < (n2 : Int) := by omega
        obtain ⟨B, off, q, ha, hcs, hq, hbd⟩ := (R2.out.under HW.out).at hlt
        obtain ⟨c0, c1, c2'⟩ := hcs k q hq
        obtain ⟨o1, o2, o3, o4, o5, o6⟩ := (okP_iff q).1 (HOK.out q (List.mem_of_getElem? hq))
        have hst := whl_step (b := b) (s := s) hq
        rw [hG.out] at hst
        have HS := Lib.hid hst
        clear hcs hq hst hbd
        subst ha
        go_upto_region 7 with fail
        obtain ⟨u, hu⟩ : ∃ u : World, wk.alloc (.cells #[.int .i64 q.f, .int .i64 q.t, .int .i64 q.s] 54) = u := ⟨_, rfl⟩
        obtain ⟨hb, n0, n1, n2'⟩ := box_pk hu
        have HU := Lib.hid (HW.out.trans (hb.mono HW.out.size))
        rw [hu]
        clear hu hb c0 c1 c2' n0 n1
        have hwr : IntKind.i64.wrap (s + q.s) = s + q.s := IntWalk.i64_in _ ⟨by omega, by omega⟩
        by_cases hbs : b < s + q.s
        · have HN := Lib.hid (show v = s from by rw [HS.out, if_pos hbs])
          go_wp2_with fail
          go_ret
          exact ⟨by rw [HN.out]; rfl, HB2.out.trans (HU.out.mono HB2.out.size)⟩
        · have HN := Lib.hid (show whl b (s + q.s) ((sel fl l).drop (k + 1)) = v from by rw [HS.out, if_neg hbs])
          go_wp2_with fail
          go_roundw
          case rel => exact ⟨k + 1, s + q.s, by go_num, rfl, by omega, by omega, by omega, HN, HU⟩
          case measure => first | (simp [intOf]; done) | (simp [intOf]; omega)
      · obtain rfl : k = n2 := by omega
        have hkI : ¬ (k : Int) < (k : Int) := by omega
        go_wp2_with fail
        go_ret
        have h1 := hG.out
        rw [List.drop_eq_nil_of_le (by rw [HL.out]; exact Nat.le_refl _)] at h1
        exact ⟨by rw [← h1]; rfl, HB2.out.trans (HW.out.mono HB2.out.size)⟩
  · have hvB : (v0 == 0) = false := by simp [hv0]
    have HN := Lib.hid (show v = 0 from by rw [← HA.out]; unfold wholeA; rw [HV.out, if_neg hv0])
    go_wp2_with fail
    go_ret
    exact ⟨by rw [HN.out]; rfl, HB.out⟩
end Go.Proofs.YtkienpbmoilheaaGreat

namespace Go.Proofs.YtkienpbmoilheaaGreat
open Go.RowKit Go.Sort Go.Shelf
set_option linter.unusedSimpArgs false
set_option linter.unusedVariables false

/-- The cells of a list of arrivals. -/
def arV : List Pk_a → List Value
  | [] => []
  | q :: r => .int .i64 q.f :: .int .i64 q.t :: .int .i64 q.s :: .int .i64 q.i :: arV r
theorem arV_length : ∀ l : List Pk_a, (arV l).length = l.length * 4
  | [] => rfl
  | q :: r => by show (arV r).length + 1 + 1 + 1 + 1 = (r.length + 1) * 4; rw [arV_length r]; omega
theorem arV_append : ∀ (a b : List Pk_a), arV (a ++ b) = arV a ++ arV b
  | [], b => rfl
  | q :: r, b => by show _ :: _ :: _ :: _ :: arV (r ++ b) = _; rw [arV_append r b]; rfl
theorem arV_at : ∀ (l : List Pk_a) (i : Nat) (q : Pk_a), l[i]? = some q → (arV l)[i * 4]? = some (.int .i64 q.f) ∧ (arV l)[i * 4 + 1]? = some (.int .i64 q.t) ∧ (arV l)[i * 4 + 2]? = some (.int .i64 q.s) ∧ (arV l)[i * 4 + 3]? = some (.int .i64 q.i)
  | [], i, q, h => by cases h
  | x :: r, 0, q, h => by cases h; exact ⟨rfl, rfl, rfl, rfl⟩
  | x :: r, i + 1, q, h => by
    have := arV_at r i q h
    rw [show (i + 1) * 4 = i * 4 + 4 by omega]
    exact this
theorem info_ar : (Tryz.prog.info? 68).map (fun i => (i.zero, i.size, i.bytes)) = some (some (.agg #[.int .i64 0, .int .i64 0, .int .i64 0, .int .i64 0]), 4, 32) := by kernel_rfl
/-- A row of the call's own is a block of its own. -/
theorem arO_of_owns {w : World} {base n : Nat} {v : Value} {l : List Pk_a} (h : w.ownsRow base 68 4 v n (arV l)) :
    l.length = n ∧ ∃ a cap, v = .slice a n cap ∧ n ≤ cap ∧ cap ≤ 9223372036854775807 ∧ (∀ x, a = some x → base ≤ x.block) ∧ (a = none ∧ n = 0 ∨ ∃ g, a = some ⟨g, 0, none⟩ ∧ base ≤ g ∧ PkO_a w g 0 l) := by
  obtain ⟨hl, hr⟩ := h
  rw [arV_length] at hl
  have hn : l.length = n := by omega
  refine ⟨hn, ?_⟩
  rcases hr with ⟨rfl, h0⟩ | ⟨g, cap, cur, rfl, hbase, hg, hnc, hcm, hsz, htake⟩
  · subst h0
    exact ⟨none, 0, rfl, Nat.le_refl _, by omega, (fun x hx => by cases hx), .inl ⟨rfl, rfl⟩⟩
  · refine ⟨some ⟨g, 0, none⟩, cap, rfl, hnc, by unfold maxLen at hcm; omega, fun x hx => by cases hx; exact hbase, .inr ⟨g, rfl, hbase, cur, _, hg, fun i q hq => ?_⟩⟩
    have hi := (List.getElem?_eq_some_iff.1 hq).1
    obtain ⟨h1, h2, h3, h4⟩ := arV_at l i q hq
    rw [← htake, List.getElem?_take, if_pos (by omega)] at h1 h2 h3 h4
    rw [Nat.zero_add]
    exact ⟨by simpa using h1, by simpa using h2, by simpa using h3, by simpa using h4⟩
theorem own_below15 {w w' : World} {base : Nat} {v : Value} {k : Nat} {xs : List Value} {e : TypeId} {s : Nat} (h : w.ownsRow base e s v k xs) (ha : Below w.heap.size w w') : w'.ownsRow base e s v k xs := by
  obtain ⟨hl, hr⟩ := h
  refine ⟨hl, ?_⟩
  rcases hr with h0 | ⟨g, cap, cur, hv, hbase, hg, h1, h2, h3, h4⟩
  · exact .inl h0
  · exact .inr ⟨g, cap, cur, hv, hbase, (ha.block g (Array.getElem?_eq_some_iff.1 hg).1).trans hg, h1, h2, h3, h4⟩
theorem rows_ne15 {w : World} {b1 b2 s1 s2 n1 n2 : Nat} {e1 e2 : TypeId} {v1 v2 : Value} {x1 x2 : List Value} (h1 : w.ownsRow b1 e1 s1 v1 n1 x1) (h2 : w.ownsRow b2 e2 s2 v2 n2 x2) (he : e1 ≠ e2) : v1.ownBlock = none ∨ v1.ownBlock ≠ v2.ownBlock := by
  rcases h1.2 with ⟨rfl, _⟩ | ⟨g1, c1, k1, rfl, _, hg1, _⟩
  · exact .inl rfl
  · rcases h2.2 with ⟨rfl, _⟩ | ⟨g2, c2, k2, rfl, _, hg2, _⟩
    · exact .inr (fun h => by cases h)
    · refine .inr (fun h => ?_)
      have e : g1 = g2 := Option.some.inj h
      subst e
      rw [hg1] at hg2
      cases hg2
      exact he rfl
/-- A box that holds an arrival. -/
def ArBox (W : World) (B : Nat) (q : Pk_a) : Prop := W.heap[B]? = some (.cells #[.int .i64 q.f, .int .i64 q.t, .int .i64 q.s, .int .i64 q.i] 68 (0, 0))
theorem ArBox.new (W : World) (q : Pk_a) : ArBox (W.alloc (.cells #[.int .i64 q.f, .int .i64 q.t, .int .i64 q.s, .int .i64 q.i] 68)) W.heap.size q := World.alloc_heap_new W _
theorem ArBox.cells {W : World} {B : Nat} {q : Pk_a} (h : ArBox W B q) : W.cell? ⟨B, 0, none⟩ = some (.int .i64 q.f) ∧ W.cell? ⟨B, 1, none⟩ = some (.int .i64 q.t) ∧ W.cell? ⟨B, 2, none⟩ = some (.int .i64 q.s) ∧ W.cell? ⟨B, 3, none⟩ = some (.int .i64 q.i) := by
  unfold ArBox at h
  exact ⟨by simp [World.cell?, h], by simp [World.cell?, h], by simp [World.cell?, h], by simp [World.cell?, h]⟩
theorem ArBox.frozen {W : World} {B : Nat} {q : Pk_a} (h : ArBox W B q) (o : Nat) : W.frozen? ⟨B, o, none⟩ = false := by
  unfold ArBox at h
  simp [World.frozen?, h]
theorem ArBox.setT {W : World} {B : Nat} {q : Pk_a} (h : ArBox W B q) (t : Int) : ArBox (W.setCell ⟨B, 1, none⟩ (.int .i64 t)) B ⟨q.f, t, q.s, q.i⟩ := block_set 1 (.int .i64 t) h
theorem newsA (w : World) (q : Pk_a) (t : TypeId) : ∀ j u, ([.int .i64 q.f, .int .i64 q.t, .int .i64 q.s, .int .i64 q.i] : List Value)[j]? = some u → (w.alloc (.cells #[.int .i64 q.f, .int .i64 q.t, .int .i64 q.s, .int .i64 q.i] t)).cell? ((⟨w.heap.size, 0, none⟩ : Addr).add j) = some u := fun j u hj => by
  have ea : ((⟨w.heap.size, 0, none⟩ : Addr).add j) = ⟨w.heap.size, j, none⟩ := by unfold Addr.add; split <;> simp_all
  rw [ea]
  have hq3 : j < 4 := (List.getElem?_eq_some_iff.1 hj).1
  rcases j with _ | _ | _ | _ | j
  · cases hj; exact cell_new13 rfl
  · cases hj; exact cell_new13 rfl
  · cases hj; exact cell_new13 rfl
  · cases hj; exact cell_new13 rfl
  · omega
theorem onesA (q : Pk_a) : ∀ u ∈ ([.int .i64 q.f, .int .i64 q.t, .int .i64 q.s, .int .i64 q.i] : List Value), u.oneCell' = true := fun u hu => by
  simp only [List.mem_cons, List.not_mem_nil, or_false] at hu; rcases hu with rfl | rfl | rfl | rfl <;> rfl
/-- A list of arrivals that grows behind a world. -/
def OwnA (w : World) (v : Value) (l : List Pk_a) (wx : World) : Prop := wx.ownsRow w.heap.size 68 4 v l.length (arV l) ∧ Below w.heap.size w wx
/-- The arrivals are handed back. -/
def GivesAr (l : List Pk_a) (w : World) (e : Ending) (w' : World) : Prop :=
  ∃ a n cap, e = .returned (.slice a n cap) ∧ Below w.heap.size w w' ∧ l.length = n ∧ n ≤ cap ∧ cap ≤ 9223372036854775807 ∧ (∀ x, a = some x → w.heap.size ≤ x.block) ∧ (n = 0 ∨ ∃ g, a = some ⟨g, 0, none⟩ ∧ w.heap.size ≤ g ∧ PkO_a w' g 0 l)

theorem arr_one {l : List Pk} {D : List Int} {k : Nat} {q : Pk} {x : Int} (hq : l[k]? = some q) (hx : D.getD k 0 = x) : arrL l D (k + 1) = if x = -1 then arrL l D k else arrL l D k ++ [⟨q.f, x + 1, q.s, k⟩] := by
  rw [arrL_succ]
  unfold arrAt
  rw [hx, show l.getD k default = q by rw [List.getD_eq_getElem?_getD, hq]; rfl]
  split
  · simp
  · rfl

set_option maxRecDepth 100000 in
set_option maxHeartbeats 3200000 in
theorem arrivals15 (a : Option Addr) (n cap : Nat) (l : List Pk) (ad : Option Addr) (cd : Nat) (D : List Int) (hn : n ≤ 60) (hD : ∀ i, i < n → D.getD i 0 ≤ 1999 ∧ -1 ≤ D.getD i 0) (w : World) (h : PkR w a n cap l) (h2 : RowZ w ad n cd D) :
    Calls Tryz.prog 43 #[.slice a n cap, .slice ad n cd] w (GivesAr (isort_a (arrL l D n)) w) := by
  obtain ⟨i0, hi, hz0, hz1, hz2⟩ := info_parts info_ar
  have H := Lib.hid h
  have R := Lib.hid h2
  have HD := Lib.hid hD
  clear h h2 hD
  go_enter Tryz.func43, Tryz.ntmps43
  go_wp2_with fail
  go_loopw [11, 5] (fun s11 s5 wx => ∃ k : Nat, s11 = .int .i64 k ∧ k ≤ n ∧ Hid (OwnA w s5 (arrL l D k) wx)) (fun s11 _ _ => n - (intOf s11).toNat)
  case atStart => exact ⟨0, by go_num, Nat.zero_le _, World.ownsRow_nil _ _ _ _, Below.refl _ _⟩
  case round =>
    obtain ⟨k, rfl, hk, HO⟩ := hrel
    obtain ⟨wk, rfl⟩ : ∃ u : World, u = wr := ⟨_, rfl⟩
    obtain ⟨s5, rfl⟩ : ∃ u : Value, u = u5 := ⟨_, rfl⟩
    by_cases hlt : k < n
    · have hlI : (k : Int) < (n : Int) := by omega
      obtain ⟨B, off, q, ha, hcs, hq, hbd⟩ := (H.out.under HO.out.2).at hlt
      obtain ⟨y, x, hy, hcy, hx, hxd, hx64⟩ := row_get (R.out.under HO.out.2) hlt
      obtain ⟨c0, c1, c2⟩ := hcs k q hq
      have hdk := HD.out k hlt
      rw [hxd] at hdk
      obtain ⟨hd1, hd2⟩ := hdk
      have HST := Lib.hid (arr_one hq hxd)
      have HCY := Lib.hid hcy
      have hal := arrL_len l D k
      clear hcs hq hx hcy hbd hxd hx64
      subst ha hy
      go_upto_region 5 with fail
      obtain ⟨u, hu⟩ : ∃ u : World, wk.alloc (.cells #[.int .i64 q.f, .int .i64 q.t, .int .i64 q.s] 54) = u := ⟨_, rfl⟩
      obtain ⟨hb, n0, n1, n2⟩ := box_pk hu
      have hyc := (hb.cell (lt_of_cell HCY.out)).trans HCY.out
      have hyl := lt_of_cell hyc
      have HU := Lib.hid (show OwnA w s5 (arrL l D k) u from ⟨own_below15 HO.out.1 hb, HO.out.2.trans (hb.mono HO.out.2.size)⟩)
      rw [hu]
      clear hu hb c0 c1 c2
      by_cases hx1 : x = -1
      · subst hx1
        have HN := Lib.hid (show OwnA w s5 (arrL l D (k + 1)) u from by rw [HST.out, if_pos rfl]; exact HU.out)
        go_wp2_with fail
        go_roundw
        case rel => exact ⟨k + 1, by go_num, by omega, HN⟩
        case measure => first | (simp [intOf]; done) | (simp [intOf]; omega)
      · have hx2 : (x == -1) = false := by simp [hx1]
        have hwr : IntKind.i64.wrap (x + 1) = x + 1 := IntWalk.i64_in _ ⟨by omega, by omega⟩
        go_upto_region 7 with fail
        obtain ⟨u2, hu2⟩ : ∃ v : World, u.alloc (.cells #[.int .i64 q.f, .int .i64 q.t, .int .i64 q.s, .int .i64 k] 68) = v := ⟨_, rfl⟩
        have hb2 : Below u.heap.size u u2 := by rw [← hu2]; exact (Below.refl _ _).alloc (Nat.le_refl _) _
        have bx : ArBox u2 u.heap.size ⟨q.f, q.t, q.s, k⟩ := by rw [← hu2]; exact ArBox.new u ⟨q.f, q.t, q.s, k⟩
        have hyc2 := (hb2.cell hyl).trans hyc
        have HU2 := Lib.hid (show OwnA w s5 (arrL l D k) u2 from ⟨own_below15 HU.out.1 hb2, HU.out.2.trans (hb2.mono HU.out.2.size)⟩)
        obtain ⟨e0, e1, e2, e3⟩ := bx.cells
        have ef := bx.frozen
        have BX := Lib.hid (bx.setT (x + 1))
        have HLE := Lib.hid (show w.heap.size ≤ u.heap.size from HU.out.2.size)
        have hne : ∀ j, s5.ownBlock = some j → ¬ j = u.heap.size := fun j hj e => by have := (HU.out.1.lt j hj).2; omega
        have HNE := Lib.hid hne
        rw [hu2]
        clear hu2 hb2 bx n0 n1 n2 hyc hne
        go_upto_region 8 with fail
        clear e0 e1 e2 e3 ef hyc2
        obtain ⟨u3, hu3⟩ : ∃ v : World, u2.setCell ⟨u.heap.size, 1, none⟩ (.int .i64 (x + 1)) = v := ⟨_, rfl⟩
        have HU3 := Lib.hid (show OwnA w s5 (arrL l D k) u3 from by
          rw [← hu3]
          refine ⟨?_, HU2.out.2.setCell (p := ⟨u.heap.size, 1, none⟩) HLE.out _⟩
          obtain ⟨hl, hr⟩ := HU2.out.1
          refine ⟨hl, ?_⟩
          rcases hr with h0 | ⟨g, cp, cur, hv, hbase, hg, h1, h2, h3, h4⟩
          · exact .inl h0
          · exact .inr ⟨g, cp, cur, hv, hbase, (Below.heap_setCell _ _ _ _ (HNE.out g (by rw [hv]; rfl))).trans hg, h1, h2, h3, h4⟩)
        have BX3 := Lib.hid (show ArBox u3 u.heap.size ⟨q.f, x + 1, q.s, k⟩ from by rw [← hu3]; exact BX.out)
        rw [hu3]
        clear hu3
        obtain ⟨e0, e1, e2, e3⟩ := BX3.out.cells
        go_wp2_with (at_builtin; refine wpList_append_own _ rfl _ _ 65 rfl w.heap.size 68 i0 (.agg #[.int .i64 0, .int .i64 0, .int .i64 0, .int .i64 0]) 4 32 Tryz.underlying65 hi hz0 hz1 hz2 rfl (by decide) s5 (arrL l D k).length (arV (arrL l D k)) rfl (HU3.out.1.alloc _) ⟨u3.heap.size, 0, none⟩ 1 1 [.int .i64 q.f, .int .i64 (x + 1), .int .i64 q.s, .int .i64 k] rfl rfl (newsA u3 ⟨q.f, x + 1, q.s, k⟩ _) (onesA ⟨q.f, x + 1, q.s, k⟩) (by unfold maxLen; omega) (by omega) (by have := HU3.out.2.size; simp; omega) ?_)
        intro v' w2 ho' hg' _
        have hrow : ∀ j, s5.ownBlock = some j → w.heap.size ≤ j := fun j hj => (HU3.out.1.lt j hj).1
        have HN := Lib.hid (show OwnA w v' (arrL l D (k + 1)) w2 from by
          rw [HST.out, if_neg hx1]
          refine ⟨?_, (HU3.out.2.alloc HU3.out.2.size _).trans (grownBy_below hg' hrow (by have := HU3.out.2.size; simp; omega))⟩
          rw [List.length_append, arV_append]
          exact ho')
        clear ho' hg' hrow e0 e1 e2 e3
        go_wp2_with fail
        go_roundw
        case rel => exact ⟨k + 1, by go_num, by omega, HN⟩
        case measure => first | (simp [intOf]; done) | (simp [intOf]; omega)
    · obtain rfl : k = n := by omega
      have hlI : ¬ (k : Int) < (k : Int) := by omega
      have hal := arrL_len l D k
      obtain ⟨hl, a2, c2, hv, h1, h2, h3, h4⟩ := arO_of_owns HO.out.1
      have HL := Lib.hid (And.intro h1 (And.intro h2 h3))
      have HB := Lib.hid HO.out.2
      subst hv
      obtain ⟨m, hm⟩ : ∃ m, (arrL l D k).length = m := ⟨_, rfl⟩
      rw [hm] at HL h4 hal ⊢
      have HM := Lib.hid hm
      clear hl h1 h2 h3 HO hm
      rcases h4 with ⟨rfl, h0⟩ | ⟨g, rfl, hgw, ho⟩
      · subst h0
        go_wp2_with fail
        refine (sortStable0_a none c2 _ _).mono ?_
        rintro e w2 ⟨rfl, rfl⟩
        go_wp2_with fail
        go_ret
        exact ⟨none, 0, c2, rfl, HB.out, by rw [isort_length_a]; exact HM.out, Nat.zero_le _, HL.out.2.1, HL.out.2.2, .inl rfl⟩
      · have HG := Lib.hid (And.intro hgw ho)
        clear hgw ho
        go_wp2_with fail
        refine (sortStable13_a g 0 m c2 (arrL l D k) HM.out (by omega) _ HG.out.2).mono ?_
        rintro e w2 ⟨rfl, ha1, ho1⟩
        have HS1 := Lib.hid (And.intro ha1 ho1)
        clear ha1 ho1
        go_wp2_with fail
        go_ret
        exact ⟨_, m, c2, rfl, HB.out.trans (HS1.out.1.below HG.out.1 HB.out.size), by rw [isort_length_a]; exact HM.out, HL.out.1, HL.out.2.1, HL.out.2.2, .inr ⟨g, rfl, HG.out.1, HS1.out.2⟩⟩
end Go.Proofs.YtkienpbmoilheaaGreat

namespace Go.Proofs.YtkienpbmoilheaaGreat
open Go.RowKit Go.Sort Go.Shelf
set_option linter.unusedSimpArgs false
set_option linter.unusedVariables false

/-- What is forwarded: the packets, and which they are. -/
def fwdP (l : List Pk) (D : List Int) : List Pk := if dcode l D = 0 then (isort_a (arrL l D l.length)).map Pk_a.pk else []
def fwdX (l : List Pk) (D : List Int) : List Int := if dcode l D = 0 then (isort_a (arrL l D l.length)).map Pk_a.i else []
/-- Two lists and an error are handed back. -/
def GivesFwd (lp : List Pk) (li : List Int) (c : Int) (w : World) (e : Ending) (w' : World) : Prop :=
  ∃ a1 n1 c1 a2 n2 c2, e = .returned (.tuple #[.slice a1 n1 c1, .slice a2 n2 c2, .int .i64 c]) ∧ Below w.heap.size w w' ∧ PkR w' a1 n1 c1 lp ∧ RowZ w' a2 n2 c2 li ∧ (∀ x, a1 = some x → w.heap.size ≤ x.block) ∧ ∀ x, a2 = some x → w.heap.size ≤ x.block
theorem dcode_ok {l : List Pk} {D : List Int} (h : dcode l D = 0) : vcode l = 0 ∧ D.length = l.length ∧ dgo l D = 0 := by
  unfold dcode at h
  split at h
  · rename_i hv
    split at h
    · rename_i hl
      exact ⟨hv, hl, h⟩
    · cases h
  · rename_i hv; exact absurd h hv
/-- What is known of each arrival. -/
theorem arr_mem {l : List Pk} {D : List Int} (h : dcode l D = 0) {x : Pk_a} (hx : x ∈ isort_a (arrL l D l.length)) : ∃ i q, l[i]? = some q ∧ D.getD i 0 ≠ -1 ∧ q.t ≤ D.getD i 0 ∧ D.getD i 0 ≤ 1999 ∧ x = ⟨q.f, D.getD i 0 + 1, q.s, i⟩ ∧ okP q = true := by
  obtain ⟨hv, hl, hd⟩ := dcode_ok h
  obtain ⟨i, hi, ha⟩ := mem_arrL.1 ((mem_isort_a _ _).1 hx)
  have hq : l[i]? = some (l.getD i default) := by rw [List.getD_eq_getElem?_getD, List.getElem?_eq_getElem hi]; rfl
  have hr := dgo_ok l D hl.symm hd i hi
  unfold arrAt at ha
  split at ha
  · cases ha
  · rename_i hn
    cases ha
    exact ⟨i, _, hq, hn, by omega, by omega, rfl, (vcode_ok hv).2.1 _ (List.mem_of_getElem? hq)⟩
theorem map_take_snoc {α β : Type} {l : List α} {f : α → β} {k : Nat} {q : α} (h : l[k]? = some q) : (l.take (k + 1)).map f = (l.take k).map f ++ [f q] := by
  rw [List.take_add_one, h, List.map_append]; rfl
/-- The first k of the packets, and which they are. -/
def fwPk (S : List Pk_a) (k : Nat) : List Pk := (S.take k).map Pk_a.pk
def fwIx (S : List Pk_a) (k : Nat) : List Int := (S.take k).map Pk_a.i
/-- Where Forward stands: k arrivals are in the two lists. -/
structure FwS (S : List Pk_a) (w2 : World) (k : Nat) (v8 v9 : Value) (wx : World) : Prop where
  pas : wx.ownsRow w2.heap.size 54 3 v8 k (pkV (fwPk S k))
  gon : wx.ownsRow w2.heap.size 3 1 v9 k ((fwIx S k).map (Value.int .i64))
  below : Below w2.heap.size w2 wx

set_option maxRecDepth 100000 in
set_option maxHeartbeats 3200000 in
theorem forward15 (a : Option Addr) (n cap : Nat) (l : List Pk) (ad : Option Addr) (nd cd : Nat) (D : List Int) (w : World) (h : PkR w a n cap l) (h2 : RowZ w ad nd cd D) :
    Calls Tryz.prog 21 #[.slice a n cap, .slice ad nd cd] w (GivesFwd (fwdP l D) (fwdX l D) (dcode l D) w) := by
  obtain ⟨i0, hi, hz0, hz1, hz2⟩ := info_parts info_pk
  obtain ⟨j0, hj, hy0, hy1, hy2⟩ := info_parts info_int
  have H := Lib.hid h
  have R := Lib.hid h2
  have hlen := h.len
  have hnd := h2.len
  have HN := Lib.hid (And.intro h.len h2.len)
  obtain ⟨c, hc⟩ : ∃ c, dcode l D = c := ⟨_, rfl⟩
  have HC := Lib.hid hc
  rw [hc]
  clear h h2 hc
  by_cases hc0 : c = 0
  · subst hc0
    obtain ⟨hv, hl, hdg⟩ := dcode_ok HC.out
    have hn60 : n ≤ 60 := by rw [← hlen]; exact (vcode_ok hv).1
    obtain rfl : nd = n := by omega
    have HDB := Lib.hid (show ∀ i, i < nd → D.getD i 0 ≤ 1999 ∧ -1 ≤ D.getD i 0 from fun i hi => by
      have h1 := dgo_ok l D hl.symm hdg i (by omega)
      rcases h1 with h1 | ⟨h1, h2⟩
      · omega
      · have h3 := (okP_iff _).1 ((vcode_ok hv).2.1 (l.getD i default) (by rw [List.getD_eq_getElem?_getD, List.getElem?_eq_getElem (by omega)]; exact List.getElem_mem _))
        omega)
    have HMEM := Lib.hid (fun x hx => arr_mem (l := l) (D := D) HC.out (x := x) hx)
    have hF : fwdP l D = (isort_a (arrL l D nd)).map Pk_a.pk ∧ fwdX l D = (isort_a (arrL l D nd)).map Pk_a.i := by
      unfold fwdP fwdX
      rw [if_pos HC.out, if_pos HC.out, hlen]
      exact ⟨rfl, rfl⟩
    rw [hF.1, hF.2]
    rw [hlen] at HMEM
    obtain ⟨S, hS⟩ : ∃ S, isort_a (arrL l D nd) = S := ⟨_, rfl⟩
    have hSl : S.length ≤ nd := by rw [← hS, isort_length_a]; exact arrL_len l D nd
    rw [hS] at HMEM ⊢
    have HSE := Lib.hid hS
    clear hv hl hdg hF hS hlen hnd
    go_enter Tryz.func21, Tryz.ntmps21
    go_wp2_with fail
    refine (fault15 a nd cap l ad nd cd D 0 HC.out _ H.out R.out).mono ?_
    rintro e w1 ⟨rfl, hb1⟩
    have B1 := Lib.hid hb1
    clear hb1
    go_wp2_with fail
    refine (arrivals15 a nd cap l ad cd D hn60 HDB.out _ (H.out.under B1.out) (R.out.under B1.out)).mono ?_
    rintro e w2 ⟨a2, n2, c2, rfl, hb2, hl2, hc1, hc2, hx2, hg2⟩
    rw [HSE.out] at hl2 hg2
    have B2 := Lib.hid (B1.out.trans (hb2.mono B1.out.size))
    have HG := Lib.hid hg2
    have HL2 := Lib.hid hl2
    have hn2 : n2 ≤ 60 := by omega
    have HS0 := Lib.hid (show FwS S w2 0 (.slice none 0 0) (.slice none 0 0) w2 from ⟨World.ownsRow_nil _ _ _ _, World.ownsRow_nil _ _ _ _, Below.refl _ _⟩)
    clear hb2 hl2 hx2 hg2 hSl
    go_wp2_with fail
    go_loopw [22, 8, 9] (fun s22 s8 s9 wx => ∃ k : Nat, s22 = .int .i64 k ∧ k ≤ n2 ∧ Hid (FwS S w2 k s8 s9 wx)) (fun s22 _ _ _ => n2 - (intOf s22).toNat)
    case atStart => exact ⟨0, by go_num, Nat.zero_le _, HS0⟩
    case round =>
      obtain ⟨k, rfl, hk, HS⟩ := hrel
      obtain ⟨wk, rfl⟩ : ∃ u : World, u = wr := ⟨_, rfl⟩
      obtain ⟨s8, rfl⟩ : ∃ u : Value, u = u8 := ⟨_, rfl⟩
      obtain ⟨s9, rfl⟩ : ∃ u : Value, u = u9 := ⟨_, rfl⟩
      by_cases hlt : k < n2
      · have hlI : (k : Int) < (n2 : Int) := by omega
        rcases HG.out with h0 | ⟨g, ha, hgw, ho⟩
        · omega
        · obtain ⟨q, hq⟩ : ∃ q, S[k]? = some q := ⟨_, List.getElem?_eq_getElem (by rw [HL2.out]; exact hlt)⟩
          obtain ⟨c0, c1, c2', c3⟩ := (ho.under HS.out.below).cells k q hq
          rw [Nat.zero_add] at c0 c1 c2' c3
          have HQ := Lib.hid (show fwPk S (k + 1) = fwPk S k ++ [q.pk] ∧ fwIx S (k + 1) = fwIx S k ++ [q.i] from And.intro (map_take_snoc (f := Pk_a.pk) hq) (map_take_snoc (f := Pk_a.i) hq))
          clear ho hgw hq
          subst ha
          go_upto_region 9 with fail
          obtain ⟨u, hu⟩ : ∃ v : World, wk.alloc (.cells #[.int .i64 q.f, .int .i64 q.t, .int .i64 q.s, .int .i64 q.i] 68) = v := ⟨_, rfl⟩
          have hbu : Below wk.heap.size wk u := by rw [← hu]; exact (Below.refl _ _).alloc (Nat.le_refl _) _
          have bx : ArBox u wk.heap.size q := by rw [← hu]; exact ArBox.new wk q
          have HS1 := Lib.hid (show FwS S w2 k s8 s9 u from ⟨own_below15 HS.out.pas hbu, own_below15 HS.out.gon hbu, HS.out.below.trans (hbu.mono HS.out.below.size)⟩)
          have BX := Lib.hid bx
          obtain ⟨e0, e1, e2, e3⟩ := bx.cells
          rw [hu]
          clear hu hbu bx c0 c1 c2' c3
          go_wp2_with (at_builtin; refine wpList_append_own _ rfl _ _ 25 rfl w2.heap.size 54 i0 (.agg #[.int .i64 0, .int .i64 0, .int .i64 0]) 3 24 Tryz.underlying25 hi hz0 hz1 hz2 rfl (by decide) s8 k (pkV (fwPk S k)) rfl (HS1.out.pas.alloc _) ⟨u.heap.size, 0, none⟩ 1 1 [.int .i64 q.f, .int .i64 q.t, .int .i64 q.s] rfl rfl (newsG u q.pk _) (onesG q.pk) (by unfold maxLen; omega) (by omega) (by have := HS1.out.below.size; simp; omega) ?_)
          intro v' w5 ho' hg' _
          have hrow : ∀ j, s8.ownBlock = some j → w2.heap.size ≤ j := fun j hj => (HS1.out.pas.lt j hj).1
          have HB5 := Lib.hid (show Below w2.heap.size u w5 from ((Below.refl w2.heap.size u).alloc HS1.out.below.size _).trans (grownBy_below hg' hrow (by have := HS1.out.below.size; simp; omega)))
          have HP5 := Lib.hid (show w5.ownsRow w2.heap.size 54 3 v' (k + 1) (pkV (fwPk S (k + 1))) from by rw [HQ.out.1, pkV_append]; exact ho')
          have HG5 := Lib.hid (show w5.ownsRow w2.heap.size 3 1 s9 k ((fwIx S k).map (Value.int .i64)) from (HS1.out.gon.alloc _).kept hg' (rows_ne15 HS1.out.gon HS1.out.pas (by decide)))
          have hne5 : s8.ownBlock = none ∨ ¬ s8.ownBlock = some wk.heap.size := by
            cases hb : s8.ownBlock with
            | none => exact .inl rfl
            | some j => exact .inr (fun e => by have h1 := HS.out.pas.lt j hb; cases e; omega)
          have bx5 : ArBox w5 wk.heap.size q := by
            have hul : wk.heap.size < (u.alloc (.cells #[.int .i64 q.f, .int .i64 q.t, .int .i64 q.s] 54)).heap.size := by
              have h1 := (Array.getElem?_eq_some_iff.1 (show u.heap[wk.heap.size]? = _ from BX.out)).1
              simp; omega
            have h2 : (u.alloc (.cells #[.int .i64 q.f, .int .i64 q.t, .int .i64 q.s] 54)).heap[wk.heap.size]? = u.heap[wk.heap.size]? := ((Below.refl u.heap.size u).alloc (Nat.le_refl _) _).block _ (Array.getElem?_eq_some_iff.1 (show u.heap[wk.heap.size]? = _ from BX.out)).1
            exact (hg'.block _ hul (fun e => by
              rcases hne5 with h0 | h0
              · rw [h0] at e; cases e
              · exact h0 e.symm)).trans (h2.trans BX.out)
          clear ho' hg' hrow e0 e1 e2 e3 hne5
          obtain ⟨e0, e1, e2, e3⟩ := bx5.cells
          clear bx5
          go_wp2_with (at_builtin; refine wpList_append_own _ rfl _ _ 22 rfl w2.heap.size 3 j0 (.int .i64 0) 1 8 Tryz.underlying22 hj hy0 hy1 hy2 rfl (by decide) s9 k ((fwIx S k).map (Value.int .i64)) rfl (HG5.out.alloc _) ⟨w5.heap.size, 0, none⟩ 1 1 [.int .i64 q.i] rfl rfl ?k1 ?k2 (by unfold maxLen; omega) (by omega) (by have := HB5.out.size; have := HS1.out.below.size; simp; omega) ?_)
          case k1 =>
            intro j u hj
            have hj1 : j < 1 := (List.getElem?_eq_some_iff.1 hj).1
            obtain rfl : j = 0 := by omega
            cases hj
            rw [show ((⟨w5.heap.size, 0, none⟩ : Addr).add 0) = ⟨w5.heap.size, 0, none⟩ from rfl]
            exact cell_new13 rfl
          case k2 => intro u hu; rw [List.mem_singleton.1 hu]; rfl
          intro v'' w7 ho' hg' _
          have hrow : ∀ j, s9.ownBlock = some j → w2.heap.size ≤ j := fun j hj => (HG5.out.lt j hj).1
          have HN7 := Lib.hid (show FwS S w2 (k + 1) v' v'' w7 from ⟨
            (HP5.out.alloc _).kept hg' (rows_ne15 HP5.out HG5.out (by decide)),
            by rw [HQ.out.2, List.map_append]; exact ho',
            HS1.out.below.trans (HB5.out.trans (((Below.refl w2.heap.size w5).alloc (by have := HB5.out.size; have := HS1.out.below.size; omega) _).trans (grownBy_below hg' hrow (by have := HB5.out.size; have := HS1.out.below.size; simp; omega))))⟩)
          clear ho' hg' hrow e0 e1 e2 e3
          go_wp2_with fail
          go_roundw
          case rel => exact ⟨k + 1, by go_num, by omega, HN7⟩
          case measure => first | (simp [intOf]; done) | (simp [intOf]; omega)
      · obtain rfl : k = n2 := by omega
        have hlI : ¬ (k : Int) < (k : Int) := by omega
        have htk : S.take k = S := List.take_of_length_le (by rw [HL2.out]; exact Nat.le_refl _)
        have hp := HS.out.pas
        have hg := HS.out.gon
        rw [show fwPk S k = S.map Pk_a.pk from by unfold fwPk; rw [htk]] at hp
        rw [show fwIx S k = S.map Pk_a.i from by unfold fwIx; rw [htk]] at hg
        obtain ⟨hpl, pa, pc, hv8, p1, p2, p3, p4⟩ := pkO_of_owns hp
        obtain ⟨ga, gc, hv9, gz, gx⟩ := rowZ_of_owns hg (by omega) (fun i hi => by
          rw [List.length_map] at hi
          rw [List.getD_eq_getElem?_getD, List.getElem?_map, List.getElem?_eq_getElem hi]
          obtain ⟨j, q, h1, _, _, _, h5, _⟩ := HMEM.out (S[i]) (List.getElem_mem hi)
          have hjl := (List.getElem?_eq_some_iff.1 h1).1
          show In64 (S[i]).i
          rw [h5]
          have := HN.out.1
          exact ⟨by show _ ≤ (j : Int); omega, by show (j : Int) ≤ _; omega⟩)
        subst hv8 hv9
        have HF := Lib.hid (show PkR wk pa k pc (S.map Pk_a.pk) ∧ RowZ wk ga k gc (S.map Pk_a.i) ∧ (∀ x, pa = some x → w2.heap.size ≤ x.block) ∧ ∀ x, ga = some x → w2.heap.size ≤ x.block from ⟨⟨hpl, p1, by omega, p2, by
          rcases p4 with ⟨_, h0⟩ | ⟨g', hga, _, hgo⟩
          · exact .inl ⟨h0, fun _ _ => trivial⟩
          · exact .inr ⟨g', 0, hga, hgo.cells⟩, fun q hq => by
          obtain ⟨x, hx, rfl⟩ := List.mem_map.1 hq
          obtain ⟨i, q0, h1, h2, h3, h4, h5, h6⟩ := HMEM.out x hx
          have h7 := (okP_iff q0).1 h6
          subst h5
          exact ⟨⟨by show _ ≤ q0.f; omega, by show q0.f ≤ _; omega⟩, ⟨by show _ ≤ D.getD i 0 + 1; omega, by show D.getD i 0 + 1 ≤ _; omega⟩, ⟨by show _ ≤ q0.s; omega, by show q0.s ≤ _; omega⟩⟩⟩, gz, p3, gx⟩)
        have HBE := Lib.hid (B2.out.trans (HS.out.below.mono B2.out.size))
        have hsz2 := B2.out.size
        clear hp hg hpl p1 p2 p3 p4 gz gx htk
        go_wp2_with fail
        refine bodyPost_ret (v := .tuple #[.slice pa k pc, .slice ga k gc, .int .i64 0]) (by simp [results, Tryz.results21, go_sem]) rfl ?_
        exact ⟨pa, k, pc, ga, k, gc, rfl, HBE.out, HF.out.1, HF.out.2.1, fun x hx => by have := HF.out.2.2.1 x hx; omega, fun x hx => by have := HF.out.2.2.2 x hx; omega⟩
  · have hF : fwdP l D = [] ∧ fwdX l D = [] := by
      unfold fwdP fwdX
      rw [if_neg (by rw [HC.out]; exact hc0), if_neg (by rw [HC.out]; exact hc0)]
      exact ⟨rfl, rfl⟩
    rw [hF.1, hF.2]
    have hcB : (c == 0) = false := by simp [hc0]
    clear hF
    go_enter Tryz.func21, Tryz.ntmps21
    go_wp2_with fail
    refine (fault15 a n cap l ad nd cd D c HC.out _ H.out R.out).mono ?_
    rintro e w1 ⟨rfl, hb1⟩
    have B1 := Lib.hid hb1
    clear hb1
    go_wp2_with fail
    refine bodyPost_ret (v := .tuple #[.slice none 0 0, .slice none 0 0, .int .i64 c]) (by simp [results, Tryz.results21, go_sem]) rfl ?_
    exact ⟨none, 0, 0, none, 0, 0, rfl, B1.out, pkR_nil _, ⟨rfl, Nat.le_refl _, Nat.zero_le _, by omega, fun i hi => absurd hi (Nat.not_lt_zero _), fun i hi => absurd hi (Nat.not_lt_zero _)⟩, (fun x hx => by cases hx), (fun x hx => by cases hx)⟩
end Go.Proofs.YtkienpbmoilheaaGreat

namespace Go.Proofs.YtkienpbmoilheaaGreat
open Go.RowKit
set_option linter.unusedSimpArgs false
set_option linter.unusedVariables false

/-- A block whose first N cells are numbers. -/
def IntO (W : World) (M N : Nat) (F : Nat → Int) : Prop := ∃ cs, W.heap[M]? = some (.cells cs 3 (0, 0)) ∧ N ≤ cs.size ∧ ∀ k, k < N → cs[k]? = some (.int .i64 (F k))
section
variable {W V : World} {M N : Nat} {F G : Nat → Int}
theorem IntO.lt (h : IntO W M N F) : M < W.heap.size := by obtain ⟨cs, h1, _⟩ := h; exact (Array.getElem?_eq_some_iff.1 h1).1
theorem IntO.cell (h : IntO W M N F) {k : Nat} (hk : k < N) : W.cell? ⟨M, k, none⟩ = some (.int .i64 (F k)) := by
  obtain ⟨cs, h1, h2, h3⟩ := h
  rw [← h3 k hk]; simp [World.cell?, h1]
theorem IntO.frozen (h : IntO W M N F) (o : Nat) : W.frozen? ⟨M, o, none⟩ = false := by
  obtain ⟨cs, h1, h2, h3⟩ := h
  simp [World.frozen?, h1]
theorem IntO.of_block (h : IntO W M N F) (hb : V.heap[M]? = W.heap[M]?) : IntO V M N F := by obtain ⟨cs, h1, h2⟩ := h; exact ⟨cs, hb.trans h1, h2⟩
theorem IntO.under (h : IntO W M N F) (hb : Below W.heap.size W V) : IntO V M N F := h.of_block (hb.block _ h.lt)
theorem IntO.congr (h : IntO W M N F) (he : ∀ k, k < N → F k = G k) : IntO W M N G := by obtain ⟨cs, h1, h2, h3⟩ := h; exact ⟨cs, h1, h2, fun k hk => by rw [h3 k hk, he k hk]⟩
theorem IntO.set (h : IntO W M N F) {j : Nat} (hj : j < N) (v : Int) : IntO (W.setCell ⟨M, j, none⟩ (.int .i64 v)) M N (fun k => if k = j then v else F k) := by
  obtain ⟨cs, h1, h2, h3⟩ := h
  refine ⟨cs.setIfInBounds j (.int .i64 v), by simp [World.setCell, Array.getElem?_modify, h1], by simpa using h2, fun k hk => ?_⟩
  show _ = some (Value.int .i64 (if k = j then v else F k))
  by_cases e : k = j
  · subst e; rw [if_pos rfl, Array.getElem?_setIfInBounds_self_of_lt (by omega)]
  · rw [if_neg e, Array.getElem?_setIfInBounds_ne (fun h => e h.symm)]; exact h3 k hk
theorem IntO.row {cap : Nat} (h : IntO W M N F) (h1 : N ≤ cap) (h2 : cap ≤ 9223372036854775807) (h3 : N ≤ 1000000) {zs : List Int} (hl : zs.length = N) (hz : ∀ k, k < N → zs.getD k 0 = F k) (hb : ∀ k, k < N → In64 (F k)) : RowZ W (some ⟨M, 0, none⟩) N cap zs :=
  ⟨hl, h1, by omega, h2, fun i hi => ⟨_, rfl, by
    have ea : ((⟨M, 0, none⟩ : Addr).add i) = ⟨M, i, none⟩ := by unfold Addr.add; split <;> simp_all
    rw [ea, hz i hi]; exact h.cell hi⟩, fun i hi => by rw [hz i hi]; exact hb i hi⟩
end
theorem intO_of_owns {w : World} {base n : Nat} {v : Value} {zs : List Int} (h : w.ownsRow base 3 1 v n (zs.map (Value.int .i64))) :
    zs.length = n ∧ ∃ a cap, v = .slice a n cap ∧ n ≤ cap ∧ cap ≤ 9223372036854775807 ∧ (a = none ∧ n = 0 ∨ ∃ g, a = some ⟨g, 0, none⟩ ∧ base ≤ g ∧ IntO w g n (fun k => zs.getD k 0)) := by
  obtain ⟨hl, hr⟩ := h
  rw [List.length_map, Nat.mul_one] at hl
  refine ⟨hl, ?_⟩
  rcases hr with ⟨rfl, h0⟩ | ⟨g, cap, cur, rfl, hbase, hg, hnc, hcm, hsz, htake⟩
  · exact ⟨none, 0, by rw [h0], by omega, by omega, .inl ⟨rfl, h0⟩⟩
  · refine ⟨some ⟨g, 0, none⟩, cap, rfl, hnc, by unfold maxLen at hcm; omega, .inr ⟨g, rfl, hbase, cur, hg, by omega, fun k hk => ?_⟩⟩
    have h1 : (zs.map (Value.int .i64))[k]? = some (.int .i64 (zs.getD k 0)) := by
      rw [List.getElem?_map, List.getD_eq_getElem?_getD, List.getElem?_eq_getElem (by omega)]; rfl
    rw [← htake, List.getElem?_take, if_pos (by omega)] at h1
    simpa using h1

set_option maxRecDepth 100000 in
set_option maxHeartbeats 800000 in
/-- A copy of numbers that is a row of one's own. -/
theorem clone15 (a : Option Addr) (n cap : Nat) (zs : List Int) (w : World) (h : RowZ w a n cap zs) (hn : n ≤ 1000000) :
    Calls Tryz.prog 45 #[.slice a n cap] w fun e w' => ∃ v, e = .returned v ∧ w'.ownsRow w.heap.size 3 1 v n (zs.map (Value.int .i64)) ∧ Below w.heap.size w w' := by
  obtain ⟨i0, hi, hz0, hz1, hz2⟩ := info_parts info_int
  have H := Lib.hid h
  clear h
  cases a with
  | none =>
    obtain rfl : n = 0 := by
      rcases Nat.eq_zero_or_pos n with h0 | h0
      · exact h0
      · obtain ⟨x, hx, _⟩ := H.out.cell 0 h0; cases hx
    have hl0 : zs = [] := List.length_eq_zero_iff.1 H.out.len
    subst hl0
    have hnil := fun (w : World) => Lib.run_eql_slice_nil (P := Tryz.prog) w 22 3 none 0 cap 0 0 Tryz.underlying22
    go_enter Tryz.func45, Tryz.ntmps45
    go_wp2_with fail
    go_ret
    exact ⟨_, rfl, World.ownsRow_nil _ _ _ _, Below.refl _ _⟩
  | some x =>
    have hnil := fun (w : World) => Lib.run_eql_slice_nil (P := Tryz.prog) w 22 3 (some x) n cap 0 0 Tryz.underlying22
    go_enter Tryz.func45, Tryz.ntmps45
    go_wp2_with (at_builtin; refine wpList_append_own _ rfl _ _ 22 rfl w.heap.size 3 i0 (.int .i64 0) 1 8 Tryz.underlying22 hi hz0 hz1 hz2 rfl (by decide) _ _ _ rfl (World.ownsRow_made w #[] 0 (Nat.le_refl _) (Nat.zero_le _) rfl) x n cap (zs.map (Value.int .i64)) rfl ?cl ?c1 ?c2 ?c3 ?c4 ?c5 ?_)
    case cl => rw [List.length_map, Nat.mul_one]; exact H.out.len
    case c1 =>
      intro j u hj
      rw [List.getElem?_map, Option.map_eq_some_iff] at hj
      obtain ⟨z, hz, rfl⟩ := hj
      have hjn : j < zs.length := (List.getElem?_eq_some_iff.1 hz).1
      obtain ⟨x', hx, hc⟩ := (H.out.alloc _).cell j (by rw [H.out.len] at hjn; exact hjn)
      obtain rfl : x = x' := Option.some.inj hx
      rw [show zs.getD j 0 = z by simp [List.getD, hz]] at hc
      exact hc
    case c2 => intro u hu; simp at hu; obtain ⟨z, _, rfl⟩ := hu; rfl
    case c3 => unfold maxLen; omega
    case c4 => omega
    case c5 => simp
    · intro v' w1 hown' hgrow _
      have HO := Lib.hid hown'
      have HG := Lib.hid hgrow
      clear hown' hgrow
      go_wp2_with fail
      go_ret
      exact ⟨_, rfl, by first | exact HO.out | (have := HO.out; simpa using this), ((Below.refl _ _).alloc (Nat.le_refl _) _).grown HG.out (by simp) (fun j hj => by cases hj; exact Nat.le_refl _)⟩

/-- The delay of the packet at a place. -/
def delAt (l : List Pk) (D : List Int) (i : Nat) : Int := if D.getD i 0 = -1 then -1 else D.getD i 0 - (l.getD i default).t
def delX (l : List Pk) (D : List Int) : List Int := if dcode l D = 0 then (List.range l.length).map (delAt l D) else []
theorem delX_at {l : List Pk} {D : List Int} (h : dcode l D = 0) {i : Nat} (hi : i < l.length) : (delX l D).getD i 0 = delAt l D i := by
  unfold delX
  rw [if_pos h, List.getD_eq_getElem?_getD, List.getElem?_map, List.getElem?_range hi]; rfl
/-- A list of numbers and an error are handed back. -/
def GivesIE (zs : List Int) (c : Int) (w : World) (e : Ending) (w' : World) : Prop :=
  ∃ a n cap, e = .returned (.tuple #[.slice a n cap, .int .i64 c]) ∧ Below w.heap.size w w' ∧ RowZ w' a n cap zs ∧ ∀ x, a = some x → w.heap.size ≤ x.block
theorem row_nil15 (w : World) (c : Nat) (hc : c ≤ 9223372036854775807) (a : Option Addr) : RowZ w a 0 c [] := ⟨rfl, Nat.zero_le _, Nat.zero_le _, hc, fun i hi => absurd hi (Nat.not_lt_zero _), fun i hi => absurd hi (Nat.not_lt_zero _)⟩

set_option maxRecDepth 100000 in
set_option maxHeartbeats 3200000 in
theorem delays15 (a : Option Addr) (n cap : Nat) (l : List Pk) (ad : Option Addr) (nd cd : Nat) (D : List Int) (w : World) (h : PkR w a n cap l) (h2 : RowZ w ad nd cd D) :
    Calls Tryz.prog 23 #[.slice a n cap, .slice ad nd cd] w (GivesIE (delX l D) (dcode l D) w) := by
  have H := Lib.hid h
  have R := Lib.hid h2
  have hlen := h.len
  have hnd := h2.len
  obtain ⟨c, hc⟩ : ∃ c, dcode l D = c := ⟨_, rfl⟩
  have HC := Lib.hid hc
  rw [hc]
  clear h h2 hc
  by_cases hc0 : c = 0
  · subst hc0
    have hd := HC.out
    unfold dcode at hd
    have hv : vcode l = 0 := by
      split at hd
      · assumption
      · rename_i hn; exact absurd hd hn
    rw [if_pos hv] at hd
    have hl : D.length = l.length := by
      split at hd
      · assumption
      · cases hd
    rw [if_pos hl] at hd
    have hn60 : n ≤ 60 := by rw [← hlen]; exact (vcode_ok hv).1
    obtain rfl : nd = n := by omega
    have HDB := Lib.hid (show ∀ i, i < nd → D.getD i 0 ≤ 1999 ∧ -1 ≤ D.getD i 0 ∧ 0 ≤ (l.getD i default).t ∧ (l.getD i default).t ≤ 2000 from fun i hi => by
      have h3 := (okP_iff _).1 ((vcode_ok hv).2.1 (l.getD i default) (by rw [List.getD_eq_getElem?_getD, List.getElem?_eq_getElem (by omega)]; exact List.getElem_mem _))
      rcases dgo_ok l D hl.symm hd i (by omega) with h1 | ⟨h1, h2⟩ <;> omega)
    have HLN := Lib.hid hlen
    clear hv hl hd hlen hnd
    go_enter Tryz.func23, Tryz.ntmps23
    go_wp2_with fail
    refine (fault15 a nd cap l ad nd cd D 0 HC.out _ H.out R.out).mono ?_
    rintro e w1 ⟨rfl, hb1⟩
    have B1 := Lib.hid hb1
    clear hb1
    go_wp2_with fail
    refine (clone15 ad nd cd D _ (R.out.under B1.out) (by omega)).mono ?_
    rintro e w2 ⟨v, rfl, ho, hb2⟩
    obtain ⟨_, a2, c2, rfl, hc1, hc2, hg⟩ := intO_of_owns ho
    have B2 := Lib.hid (B1.out.trans (hb2.mono B1.out.size))
    have hsz1 := B1.out.size
    have HG := Lib.hid (show nd = 0 ∨ ∃ g, a2 = some ⟨g, 0, none⟩ ∧ w.heap.size ≤ g ∧ IntO w2 g nd (fun k => if k < 0 then delAt l D k else D.getD k 0) from by
      rcases hg with ⟨_, h0⟩ | ⟨g, ha, hgw, ho⟩
      · exact .inl h0
      · exact .inr ⟨g, ha, by omega, ho.congr fun k _ => by rw [if_neg (by omega)]⟩)
    have HX2 := Lib.hid (show ∀ x, a2 = some x → w.heap.size ≤ x.block from fun x hx => by
      rcases hg with ⟨h0, _⟩ | ⟨g, ha, hgw, _⟩
      · rw [h0] at hx; cases hx
      · rw [ha] at hx; cases hx; show w.heap.size ≤ g; omega)
    clear ho hb2 hg
    go_wp2_with fail
    go_loopw [20] (fun s20 wx => ∃ k : Nat, s20 = .int .i64 k ∧ k ≤ nd ∧ Hid (Below w.heap.size w wx) ∧ Hid (nd = 0 ∨ ∃ g, a2 = some ⟨g, 0, none⟩ ∧ w.heap.size ≤ g ∧ IntO wx g nd (fun i => if i < k then delAt l D i else D.getD i 0))) (fun s20 _ => nd - (intOf s20).toNat)
    case atStart => exact ⟨0, by go_num, Nat.zero_le _, B2, HG⟩
    case round =>
      obtain ⟨k, rfl, hk, HW, HGk⟩ := hrel
      obtain ⟨wk, rfl⟩ : ∃ u : World, u = wr := ⟨_, rfl⟩
      by_cases hlt : k < nd
      · have hlI : (k : Int) < (nd : Int) := by omega
        obtain ⟨B, off, q, ha, hcs, hq, hbd⟩ := (H.out.under HW.out).at hlt
        obtain ⟨y, x, hy, hcy, hx, hxd, hx64⟩ := row_get (R.out.under HW.out) hlt
        obtain ⟨c0, c1, c2'⟩ := hcs k q hq
        rcases HGk.out with h0 | ⟨g, hga, hgw, ho⟩
        · omega
        have hdb := HDB.out k hlt
        have hqd : l.getD k default = q := by rw [List.getD_eq_getElem?_getD, hq]; rfl
        rw [hxd, hqd] at hdb
        obtain ⟨d1, d2, d3, d4⟩ := hdb
        have hda : delAt l D k = if x = -1 then -1 else x - q.t := by unfold delAt; rw [hxd, hqd]
        have HDA := Lib.hid hda
        have HXD := Lib.hid hxd
        have HCY := Lib.hid hcy
        clear hcs hq hx hcy hbd hx64 hqd hda hxd
        have HGG := Lib.hid (And.intro hgw ho)
        clear hgw ho
        subst ha hy hga
        go_upto_region 8 with fail
        obtain ⟨u, hu⟩ : ∃ u : World, wk.alloc (.cells #[.int .i64 q.f, .int .i64 q.t, .int .i64 q.s] 54) = u := ⟨_, rfl⟩
        obtain ⟨hb, n0, n1, n2⟩ := box_pk hu
        have hyc := (hb.cell (lt_of_cell HCY.out)).trans HCY.out
        have HU := Lib.hid (HW.out.trans (hb.mono HW.out.size))
        have HO2 := Lib.hid (HGG.out.2.under hb)
        have hgc := HO2.out.cell hlt
        rw [if_neg (Nat.lt_irrefl k), HXD.out] at hgc
        have hgf := HO2.out.frozen
        rw [hu]
        clear hu hb c0 c1 c2' n0 n2
        by_cases hx1 : x = -1
        · subst hx1
          have HN := Lib.hid (show IntO u g nd (fun i => if i < k + 1 then delAt l D i else D.getD i 0) from HO2.out.congr fun i hi => by
            by_cases e : i = k
            · subst e; rw [if_neg (Nat.lt_irrefl _), if_pos (by omega), HDA.out, if_pos rfl, HXD.out]
            · by_cases e2 : i < k
              · rw [if_pos e2, if_pos (by omega)]
              · rw [if_neg e2, if_neg (by omega)])
          go_wp2_with fail
          go_roundw
          case rel => exact ⟨k + 1, by go_num, by omega, HU, .inr ⟨g, rfl, HGG.out.1, HN.out⟩⟩
          case measure => first | (simp [intOf]; done) | (simp [intOf]; omega)
        · have hx2 : (x == -1) = false := by simp [hx1]
          have hx3 : (x != -1) = true := by simp [hx1]
          have hwr : IntKind.i64.wrap (x - q.t) = x - q.t := IntWalk.i64_in _ ⟨by omega, by omega⟩
          have HN := Lib.hid (show IntO (u.setCell ⟨g, k, none⟩ (.int .i64 (x - q.t))) g nd (fun i => if i < k + 1 then delAt l D i else D.getD i 0) from (HO2.out.set hlt (x - q.t)).congr fun i hi => by
            by_cases e : i = k
            · subst e; rw [if_pos rfl, if_pos (by omega), HDA.out, if_neg hx1]
            · rw [if_neg e]
              by_cases e2 : i < k
              · rw [if_pos e2, if_pos (by omega)]
              · rw [if_neg e2, if_neg (by omega)])
          go_wp2_with fail
          go_region
          all_goals go_wp2_with fail
          go_roundw
          case rel => exact ⟨k + 1, by go_num, by omega, (HU.out.setCell (p := ⟨g, k, none⟩) HGG.out.1 _).drew, .inr ⟨g, rfl, HGG.out.1, HN.out⟩⟩
          case measure => first | (simp [intOf]; done) | (simp [intOf]; omega)
      · obtain rfl : k = nd := by omega
        have hkI : ¬ (k : Int) < (k : Int) := by omega
        go_wp2_with fail
        refine bodyPost_ret (v := .tuple #[.slice a2 k c2, .int .i64 0]) (by simp [results, Tryz.results23, go_sem]) rfl ?_
        have hlx : (delX l D).length = k := by unfold delX; rw [if_pos HC.out]; simp [HLN.out]
        rcases HGk.out with h0 | ⟨g, rfl, hgw, ho⟩
        · subst h0
          have e0 : delX l D = [] := List.length_eq_zero_iff.1 hlx
          refine ⟨a2, 0, c2, rfl, HW.out, by rw [e0]; exact row_nil15 _ _ hc2 _, HX2.out⟩
        · refine ⟨_, k, c2, rfl, HW.out, ho.row hc1 hc2 (by omega) hlx (fun i hi => by rw [if_pos hi]; exact delX_at HC.out (by rw [HLN.out]; exact hi)) (fun i hi => ?_), fun x hx => by cases hx; exact hgw⟩
          rw [if_pos hi]
          have := HDB.out i hi
          unfold delAt
          split
          · exact ⟨by decide, by decide⟩
          · exact ⟨by omega, by omega⟩
  · have hF : delX l D = [] := by unfold delX; rw [if_neg (by rw [HC.out]; exact hc0)]
    rw [hF]
    have hcB : (c == 0) = false := by simp [hc0]
    clear hF
    go_enter Tryz.func23, Tryz.ntmps23
    go_wp2_with fail
    refine (fault15 a n cap l ad nd cd D c HC.out _ H.out R.out).mono ?_
    rintro e w1 ⟨rfl, hb1⟩
    have B1 := Lib.hid hb1
    clear hb1
    go_wp2_with fail
    refine bodyPost_ret (v := .tuple #[.slice none 0 0, .int .i64 c]) (by simp [results, Tryz.results23, go_sem]) rfl ?_
    exact ⟨none, 0, 0, rfl, B1.out, row_nil15 _ _ (by omega) _, (fun x hx => by cases hx)⟩
end Go.Proofs.YtkienpbmoilheaaGreat
