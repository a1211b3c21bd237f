/- The document's package packet: the fault, Whole, Delays. By the verifier's side. -/
import Derived.Test.YtkienpbmoilheaaGreatAAvFAvWPk1PkD
import Derived.Test.YtkienpbmoilheaaGreatATrDTrC
namespace Go.Proofs.YtkienpbmoilheaaGreat
open Go.RowKit
set_option linter.unusedSimpArgs false
set_option linter.unusedVariables false

set_option maxRecDepth 100000 in
set_option maxHeartbeats 1600000 in
theorem rbad15 (a : Option Addr) (n cap : Nat) (l : List Pk) (ad : Option Addr) (nd cd : Nat) (D : List Int) (c : Int) (hc : dcode l D = c) (w : World) (h : PkR w a n cap l) (h2 : RowZ w ad nd cd D) :
    Calls Tryz.prog 44 #[.slice a n cap, .slice ad nd cd] w (Says (.int .i64 c) w) := by
  have hsm := h.sm
  have H := Lib.hid h
  have R := Lib.hid h2
  have HC := Lib.hid hc
  have HL := Lib.hid (And.intro h.len h2.len)
  have hnd := h2.sm
  obtain ⟨v, hv⟩ : ∃ v, vcode l = v := ⟨_, rfl⟩
  have HV := Lib.hid hv
  clear h h2 hc hv
  go_enter Tryz.func44, Tryz.ntmps44
  go_wp2_with fail
  refine (rvalidate_any a n cap l v HV.out _ H.out).mono ?_
  rintro e w1 ⟨rfl, hb⟩
  have HB := Lib.hid hb
  clear hb
  by_cases hv0 : v = 0
  · subst hv0
    by_cases hnn : nd = n
    · subst hnn
      have HG := Lib.hid (show dgo (l.drop 0) (D.drop 0) = c from by rw [List.drop_zero, List.drop_zero, ← HC.out]; unfold dcode; rw [if_pos HV.out, if_pos (by rw [HL.out.1, HL.out.2])])
      go_wp2_with fail
      go_loopw [6] (fun vi wx => ∃ k : Nat, vi = .int .i64 k ∧ k ≤ nd ∧ Hid (dgo (l.drop k) (D.drop k) = c) ∧ Hid (Below w.heap.size w wx)) (fun vi _ => nd - (intOf vi).toNat)
      case atStart => exact ⟨0, by go_num, Nat.zero_le _, HG, HB⟩
      case round =>
        obtain ⟨k, rfl, hk, hG, HW⟩ := hrel
        obtain ⟨wk, rfl⟩ : ∃ u : World, u = wr := ⟨_, rfl⟩
        by_cases hlt : k < nd
        · have hlI : (k : Int) < (nd : Int) := by omega
          obtain ⟨B, off, q, ha, hcs, hq, hbd⟩ := (H.out.under HW.out).at hlt
          obtain ⟨y, x, hy, hcy, hx, _, hx64⟩ := row_get (R.out.under HW.out) hlt
          obtain ⟨c0, c1, c2⟩ := hcs k q hq
          have hst := dgo_step hq hx
          rw [hG.out] at hst
          have HS := Lib.hid hst
          have HAA := Lib.hid (And.intro ha hy)
          clear hcs hq hx hst hbd c0 c2
          rw [ha, hy]
          clear ha hy
          by_cases hx1 : x = -1
          · subst hx1
            have HN := Lib.hid (show dgo (l.drop (k + 1)) (D.drop (k + 1)) = c from by rw [HS.out, if_neg (fun h => h.1 rfl)])
            go_wp2_with fail
            go_quiet (fail)
            go_wp2_with fail
            go_roundw
            case rel => exact ⟨k + 1, by go_num, by omega, HN, HW.out.drewN _⟩
            case measure => first | (simp [intOf]; done) | (simp [intOf]; omega)
          · have hx2 : (x == -1) = false := by simp [hx1]
            have hx3 : (x != -1) = true := by simp [hx1]
            by_cases h1 : x < q.t
            · have HN := Lib.hid (show c = 2 from by rw [HS.out, if_pos ⟨hx1, .inl h1⟩])
              have hd1 : decide (x < q.t) = true := decide_eq_true h1
              go_wp2_with fail
              go_quiet (fail)
              go_wp2_with fail
              go_ret
              exact ⟨by rw [HN.out]; rfl, HW.out.drewN _⟩
            · have hd1 : decide (x < q.t) = false := decide_eq_false h1
              by_cases h2 : 1999 < x
              · have HN := Lib.hid (show c = 2 from by rw [HS.out, if_pos ⟨hx1, .inr h2⟩])
                have h3 : (2000 : Int) ≤ x := by omega
                have hd2 : decide ((2000 : Int) ≤ x) = true := decide_eq_true h3
                go_wp2_with fail
                go_quiet (fail)
                go_wp2_with fail
                go_ret
                exact ⟨by rw [HN.out]; rfl, HW.out.drewN _⟩
              · have HN := Lib.hid (show dgo (l.drop (k + 1)) (D.drop (k + 1)) = c from by rw [HS.out, if_neg (fun h => h.2.elim h1 h2)])
                have h3 : ¬ (2000 : Int) ≤ x := by omega
                have hd2 : decide ((2000 : Int) ≤ x) = false := decide_eq_false h3
                go_wp2_with fail
                go_quiet (fail)
                go_wp2_with fail
                go_roundw
                case rel => exact ⟨k + 1, by go_num, by omega, HN, HW.out.drewN _⟩
                case measure => first | (simp [intOf]; done) | (simp [intOf]; omega)
        · obtain rfl : k = nd := by omega
          have hkI : ¬ (k : Int) < (k : Int) := by omega
          go_wp2_with fail
          go_ret
          have h1 := hG.out
          rw [List.drop_eq_nil_of_le (by rw [HL.out.1]; exact Nat.le_refl _)] at h1
          exact ⟨by rw [← h1]; rfl, HW.out⟩
    · have hnI : ¬ (nd : Int) = (n : Int) := by omega
      have hnB : ((nd : Int) == (n : Int)) = false := by simp; omega
      have HN := Lib.hid (show c = 7 from by rw [← HC.out]; unfold dcode; rw [if_pos HV.out, if_neg (by rw [HL.out.1, HL.out.2]; exact hnn)])
      go_wp2_with fail
      go_ret
      exact ⟨by rw [HN.out]; rfl, HB.out⟩
  · have hvB : (v == 0) = false := by simp [hv0]
    have HN := Lib.hid (show c = v from by rw [← HC.out]; unfold dcode; rw [HV.out, if_neg hv0])
    go_wp2_with fail
    go_ret
    exact ⟨by rw [HN.out]; rfl, HB.out⟩

theorem sel_drop {l : List Pk} {k : Nat} {q : Pk} (fl : Int) (hq : l[k]? = some q) : sel fl (l.drop k) = if ofFlow fl q = true then q :: sel fl (l.drop (k + 1)) else sel fl (l.drop (k + 1)) := by
  obtain ⟨hk, he⟩ := List.getElem?_eq_some_iff.1 hq
  rw [List.drop_eq_getElem_cons hk, he]
  unfold sel
  rw [List.filter_cons]

set_option maxRecDepth 100000 in
set_option maxHeartbeats 1600000 in
theorem rwhole15 (a : Option Addr) (n cap : Nat) (l : List Pk) (fl b v : Int) (hb : In64 b) (hf : In64 fl) (hv : wholeA l fl b = v) (w : World) (h : PkR w a n cap l) :
    Calls Tryz.prog 28 #[.slice a n cap, .int .i64 fl, .int .i64 b] w (Says (.int .i64 v) w) := by
  have H := Lib.hid h
  have HA := Lib.hid hv
  obtain ⟨hb1, hb2⟩ := hb
  obtain ⟨v0, hv0⟩ : ∃ v, vcode l = v := ⟨_, rfl⟩
  have HV := Lib.hid hv0
  have hlen := h.len
  have HL := Lib.hid hlen
  have hsm := h.sm
  clear h hv hv0 hlen
  go_enter Tryz.func28, Tryz.ntmps28
  go_wp2_with fail
  refine (rvalidate_any a n cap l v0 HV.out _ H.out).mono ?_
  rintro e w1 ⟨rfl, hb⟩
  have HB := Lib.hid hb
  clear hb
  by_cases hv0 : v0 = 0
  · subst hv0
    have HOK := Lib.hid (vcode_ok HV.out)
    have hn60 : n ≤ 60 := by rw [← HL.out]; exact HOK.out.1
    have HG := Lib.hid (show whl b 0 (sel fl (l.drop 0)) = v from by rw [List.drop_zero, ← HA.out]; unfold wholeA; rw [if_pos HV.out])
    go_wp2_with fail
    go_loopw [8, 7] (fun s8 s7 wx => ∃ (k : Nat) (s : Int), s8 = .int .i64 k ∧ s7 = .int .i64 s ∧ k ≤ n ∧ 0 ≤ s ∧ s ≤ 1500 * (k : Int) ∧ Hid (whl b s (sel fl (l.drop k)) = v) ∧ Hid (Below w.heap.size w wx)) (fun s8 _ _ => n - (intOf s8).toNat)
    case atStart => exact ⟨0, 0, by go_num, rfl, Nat.zero_le _, Int.le_refl _, by omega, HG, HB⟩
    case round =>
      obtain ⟨k, s, rfl, rfl, hk, hs0, hs1, hG, HW⟩ := hrel
      obtain ⟨wk, rfl⟩ : ∃ u : World, u = wr := ⟨_, rfl⟩
      by_cases hlt : k < n
      · have hlI : (k : Int) < (n : Int) := by omega
        obtain ⟨B, off, q, ha, hcs, hq, hbd⟩ := (H.out.under HW.out).at hlt
        obtain ⟨c0, c1, c2'⟩ := hcs k q hq
        obtain ⟨o1, o2, o3, o4, o5, o6⟩ := (okP_iff q).1 (HOK.out.2.1 q (List.mem_of_getElem? hq))
        have hst := sel_drop fl hq
        have HS := Lib.hid hst
        have HAA := Lib.hid ha
        clear hcs hq hst hbd c1
        rw [ha]
        clear ha
        have hwr : IntKind.i64.wrap (s + q.s) = s + q.s := IntWalk.i64_in _ ⟨by omega, by omega⟩
        by_cases hof : ofFlow fl q = true
        · have hg2 : whl b s (q :: sel fl (l.drop (k + 1))) = v := by have := hG.out; rwa [HS.out, if_pos hof] at this
          have HG2 := Lib.hid hg2
          have hff : fl = -1 ∨ q.f = fl := ((ofFlow_iff fl q).1 hof).2
          clear hg2
          by_cases hbs : b < s + q.s
          · have HN := Lib.hid (show v = s from by rw [← HG2.out]; unfold whl; rw [if_pos hbs])
            by_cases hf1 : fl = -1
            · subst hf1
              go_wp2_with fail
              go_ret
              exact ⟨by rw [HN.out]; rfl, HW.out⟩
            · have hfq : (q.f == fl) = true := by rcases hff with h | h <;> simp_all
              have hfb : (fl == -1) = false := by simp [hf1]
              have hfb2 : (fl != -1) = true := by simp [hf1]
              have hfq2 : (q.f != fl) = false := by simp [bne, hfq]
              clear hff
              go_wp2_with fail
              go_ret
              exact ⟨by rw [HN.out]; rfl, HW.out⟩
          · have HN := Lib.hid (show whl b (s + q.s) (sel fl (l.drop (k + 1))) = v from by rw [← HG2.out]; conv => rhs; unfold whl; rw [if_neg hbs])
            by_cases hf1 : fl = -1
            · subst hf1
              go_wp2_with fail
              go_roundw
              case rel => exact ⟨k + 1, s + q.s, by go_num, rfl, by omega, by omega, by omega, HN, HW⟩
              case measure => first | (simp [intOf]; done) | (simp [intOf]; omega)
            · have hfq : (q.f == fl) = true := by rcases hff with h | h <;> simp_all
              have hfb : (fl == -1) = false := by simp [hf1]
              have hfb2 : (fl != -1) = true := by simp [hf1]
              have hfq2 : (q.f != fl) = false := by simp [bne, hfq]
              clear hff
              go_wp2_with fail
              go_roundw
              case rel => exact ⟨k + 1, s + q.s, by go_num, rfl, by omega, by omega, by omega, HN, HW⟩
              case measure => first | (simp [intOf]; done) | (simp [intOf]; omega)
        · have HN := Lib.hid (show whl b s (sel fl (l.drop (k + 1))) = v from by have := hG.out; rwa [HS.out, if_neg hof] at this)
          have hf1 : ¬ fl = -1 := fun h => hof ((ofFlow_iff fl q).2 ⟨by omega, .inl h⟩)
          have hf2 : ¬ q.f = fl := fun h => hof ((ofFlow_iff fl q).2 ⟨by omega, .inr h⟩)
          have hfq : (q.f == fl) = false := by simp [hf2]
          have hfb : (fl == -1) = false := by simp [hf1]
          have hfb2 : (fl != -1) = true := by simp [hf1]
          have hfq2 : (q.f != fl) = true := by simp [bne, hfq]
          go_wp2_with fail
          go_roundw
          case rel => exact ⟨k + 1, s, by go_num, rfl, by omega, by omega, by omega, HN, HW⟩
          case measure => first | (simp [intOf]; done) | (simp [intOf]; omega)
      · obtain rfl : k = n := by omega
        have hkI : ¬ (k : Int) < (k : Int) := by omega
        go_wp2_with fail
        go_ret
        have h1 := hG.out
        rw [List.drop_eq_nil_of_le (by rw [HL.out]; exact Nat.le_refl _)] at h1
        exact ⟨by rw [← h1]; rfl, HW.out⟩
  · have hvB : (v0 == 0) = false := by simp [hv0]
    have HN := Lib.hid (show v = 0 from by rw [← HA.out]; unfold wholeA; rw [HV.out, if_neg hv0])
    go_wp2_with fail
    go_ret
    exact ⟨by rw [HN.out]; rfl, HB.out⟩

theorem delX_is {l : List Pk} {D : List Int} (h : dcode l D = 0) : delX l D = (List.range l.length).map (delAt l D) := by unfold delX; rw [if_pos h]
theorem range_snoc {f : Nat → Int} (k : Nat) : (List.range (k + 1)).map f = (List.range k).map f ++ [f k] := by rw [List.range_succ, List.map_append]; rfl
/-- The first k delays. -/
def delK (l : List Pk) (D : List Int) (k : Nat) : List Int := (List.range k).map (delAt l D)

set_option maxRecDepth 100000 in
set_option maxHeartbeats 3200000 in
theorem rdelays15 (a : Option Addr) (n cap : Nat) (l : List Pk) (ad : Option Addr) (nd cd : Nat) (D : List Int) (w : World) (h : PkR w a n cap l) (h2 : RowZ w ad nd cd D) :
    Calls Tryz.prog 24 #[.slice a n cap, .slice ad nd cd] w (GivesIE (delX l D) (dcode l D) w) := by
  obtain ⟨j0, hj, hy0, hy1, hy2⟩ := info_parts info_int
  have H := Lib.hid h
  have R := Lib.hid h2
  have hlen := h.len
  have hnd := h2.len
  obtain ⟨c, hc⟩ : ∃ c, dcode l D = c := ⟨_, rfl⟩
  have HC := Lib.hid hc
  rw [hc]
  clear h h2 hc
  by_cases hc0 : c = 0
  · subst hc0
    have hd := HC.out
    unfold dcode at hd
    have hv : vcode l = 0 := by
      split at hd
      · assumption
      · rename_i hn; exact absurd hd hn
    rw [if_pos hv] at hd
    have hl : D.length = l.length := by
      split at hd
      · assumption
      · cases hd
    rw [if_pos hl] at hd
    have hn60 : n ≤ 60 := by rw [← hlen]; exact (vcode_ok hv).1
    obtain rfl : nd = n := by omega
    have HDB := Lib.hid (show ∀ i, i < nd → D.getD i 0 ≤ 1999 ∧ -1 ≤ D.getD i 0 ∧ 0 ≤ (l.getD i default).t ∧ (l.getD i default).t ≤ 2000 from fun i hi => by
      have h3 := (okP_iff _).1 ((vcode_ok hv).2.1 (l.getD i default) (by rw [List.getD_eq_getElem?_getD, List.getElem?_eq_getElem (by omega)]; exact List.getElem_mem _))
      rcases dgo_ok l D hl.symm hd i (by omega) with h1 | ⟨h1, h2⟩ <;> omega)
    have HLN := Lib.hid hlen
    clear hv hl hd hlen hnd
    go_enter Tryz.func24, Tryz.ntmps24
    go_wp2_with fail
    refine (rbad15 a nd cap l ad nd cd D 0 HC.out _ H.out R.out).mono ?_
    rintro e w1 ⟨rfl, hb1⟩
    have B1 := Lib.hid hb1
    clear hb1
    have HO0 := Lib.hid (show w1.ownsRow w1.heap.size 3 1 (.slice none 0 0) 0 ((delK l D 0).map (Value.int .i64)) ∧ Below w1.heap.size w1 w1 from ⟨World.ownsRow_nil _ _ _ _, Below.refl _ _⟩)
    go_wp2_with fail
    go_loopw [8, 7] (fun s8 s7 wx => ∃ k : Nat, s8 = .int .i64 k ∧ k ≤ nd ∧ Hid (wx.ownsRow w1.heap.size 3 1 s7 k ((delK l D k).map (Value.int .i64)) ∧ Below w1.heap.size w1 wx)) (fun s8 _ _ => nd - (intOf s8).toNat)
    case atStart => exact ⟨0, by go_num, Nat.zero_le _, HO0⟩
    case round =>
      obtain ⟨k, rfl, hk, HO⟩ := hrel
      obtain ⟨wk, rfl⟩ : ∃ u : World, u = wr := ⟨_, rfl⟩
      obtain ⟨s7, rfl⟩ : ∃ u : Value, u = u7 := ⟨_, rfl⟩
      by_cases hlt : k < nd
      · have hlI : (k : Int) < (nd : Int) := by omega
        have HBk := Lib.hid (B1.out.trans (HO.out.2.mono B1.out.size))
        obtain ⟨B, off, q, ha, hcs, hq, hbd⟩ := (H.out.under HBk.out).at hlt
        obtain ⟨y, x, hy, hcy, hx, hxd, hx64⟩ := row_get (R.out.under HBk.out) hlt
        obtain ⟨c0, c1, c2'⟩ := hcs k q hq
        have hdb := HDB.out k hlt
        have hqd : l.getD k default = q := by rw [List.getD_eq_getElem?_getD, hq]; rfl
        rw [hxd, hqd] at hdb
        obtain ⟨d1, d2, d3, d4⟩ := hdb
        have HDA := Lib.hid (show delK l D (k + 1) = delK l D k ++ [if x = -1 then -1 else x - q.t] from by unfold delK; rw [range_snoc]; congr 2; unfold delAt; rw [hxd, hqd])
        have HAA := Lib.hid (And.intro ha hy)
        have hcell := hcy
        clear hcs hq hx hbd hx64 hqd hxd c0 c2'
        rw [ha, hy]
        clear ha hy
        have hsz1 := HO.out.2.size
        by_cases hx1 : x = -1
        · have HD1 := Lib.hid (show delK l D (k + 1) = delK l D k ++ [-1] from by rw [HDA.out, if_pos hx1])
          clear HDA
          subst hx1
          go_wp2_with (at_builtin; refine wpList_append_own _ rfl _ _ 22 rfl w1.heap.size 3 j0 (.int .i64 0) 1 8 Tryz.underlying22 hj hy0 hy1 hy2 rfl (by decide) s7 k ((delK l D k).map (Value.int .i64)) rfl (HO.out.1.alloc _) ⟨wk.heap.size, 0, none⟩ 1 1 [.int .i64 (-1)] rfl rfl ?k1 ?k2 (by unfold maxLen; omega) (by omega) (by simp; omega) ?_)
          · intro j u hj
            have hj1 : j < 1 := (List.getElem?_eq_some_iff.1 hj).1
            obtain rfl : j = 0 := by omega
            cases hj
            rw [show ((⟨wk.heap.size, 0, none⟩ : Addr).add 0) = ⟨wk.heap.size, 0, none⟩ from rfl]
            exact cell_new13 rfl
          · intro u hu; rw [List.mem_singleton.1 hu]; rfl
          intro v' w7 ho' hg' _
          have hrow : ∀ j, s7.ownBlock = some j → w1.heap.size ≤ j := fun j hj => (HO.out.1.lt j hj).1
          have HN := Lib.hid (show w7.ownsRow w1.heap.size 3 1 v' (k + 1) ((delK l D (k + 1)).map (Value.int .i64)) ∧ Below w1.heap.size w1 w7 from
            ⟨by rw [HD1.out, List.map_append]; exact ho', (HO.out.2.alloc HO.out.2.size _).grown hg' (by simp; omega) hrow⟩)
          clear ho' hg' hrow hcy hcell c1
          go_wp2_with fail
          go_roundw
          case rel => exact ⟨k + 1, by go_num, by omega, HN⟩
          case measure => first | (simp [intOf]; done) | (simp [intOf]; omega)
        · have hx2 : (x == -1) = false := by simp [hx1]
          have hwr : IntKind.i64.wrap (x - q.t) = x - q.t := IntWalk.i64_in _ ⟨by omega, by omega⟩
          have HO2 := Lib.hid (show ((wk.alloc (.cells #[.int .i64 (x - q.t)] 3)).drew).ownsRow w1.heap.size 3 1 s7 k ((delK l D k).map (Value.int .i64)) from HO.out.1.alloc _)
          have HB2 := Lib.hid (show Below w1.heap.size w1 ((wk.alloc (.cells #[.int .i64 (x - q.t)] 3)).drew) from (HO.out.2.alloc HO.out.2.size _).drew)
          have hsz2 : w1.heap.size ≤ ((wk.alloc (.cells #[.int .i64 (x - q.t)] 3)).drew).heap.size := HB2.out.size
          have HD1 := Lib.hid (show delK l D (k + 1) = delK l D k ++ [x - q.t] from by rw [HDA.out, if_neg hx1])
          clear HDA
          go_wp2_with fail
          refine wp_region_keeps (fun u => u.cell? (y.add k) = some (.int .i64 x) ∧ u.cell? ⟨B, off + k * 3 + 1, none⟩ = some (.int .i64 q.t)) 12 2 (by kernel_rfl) (by kernel_rfl) ⟨hcell, c1⟩ (fun hHeld => ?_)
          refine wpAnyK_take (i := 0) (v := ?_) rfl (by kernel_rfl) (fun _ _ _ h => h) (Or.inl ⟨by rfl, ?_⟩) (by assumption) ?_
          rotate_left
          · (intro w hSw; (try dsimp only at hSw); (try obtain ⟨f0, f1⟩ := hSw); go_simp; try with_reducible rfl)
          try simp only [Act.put, List.getElem_toArray, List.getElem_cons_zero, List.getElem_cons_succ, List.setIfInBounds_toArray, List.set_cons_zero, List.set_cons_succ]
          refine wpAnyK_take (i := 1) (v := ?_) rfl (by kernel_rfl) (fun _ _ _ h => h) (Or.inl ⟨by rfl, ?_⟩) (by assumption) ?_
          rotate_left
          · (intro w hSw; (try dsimp only at hSw); (try obtain ⟨f0, f1⟩ := hSw); go_simp; try with_reducible rfl)
          try simp only [Act.put, List.getElem_toArray, List.getElem_cons_zero, List.getElem_cons_succ, List.setIfInBounds_toArray, List.set_cons_zero, List.set_cons_succ]
          refine wpAnyK_take (i := 2) (v := ?_) rfl (by kernel_rfl) (fun _ _ _ h => h) (Or.inl ⟨by rfl, ?_⟩) (by assumption) ?_
          rotate_left
          · (intro w hSw; (try dsimp only at hSw); (try obtain ⟨f0, f1⟩ := hSw); go_simp; try with_reducible rfl)
          try simp only [Act.put, List.getElem_toArray, List.getElem_cons_zero, List.getElem_cons_succ, List.setIfInBounds_toArray, List.set_cons_zero, List.set_cons_succ]
          refine wpAnyK_take (i := 3) (v := ?_) rfl (by kernel_rfl) (fun _ _ _ h => h) (Or.inl ⟨by rfl, ?_⟩) (by assumption) ?_
          rotate_left
          · (intro w hSw; (try dsimp only at hSw); (try obtain ⟨f0, f1⟩ := hSw); go_simp; try with_reducible rfl)
          try simp only [Act.put, List.getElem_toArray, List.getElem_cons_zero, List.getElem_cons_succ, List.setIfInBounds_toArray, List.set_cons_zero, List.set_cons_succ]
          refine wpAnyK_take (i := 4) (v := ?_) rfl (by kernel_rfl) (fun _ _ _ h => h) (Or.inl ⟨by rfl, ?_⟩) (by assumption) ?_
          rotate_left
          · (intro w hSw; (try dsimp only at hSw); (try obtain ⟨f0, f1⟩ := hSw); go_simp; try with_reducible rfl)
          try simp only [Act.put, List.getElem_toArray, List.getElem_cons_zero, List.getElem_cons_succ, List.setIfInBounds_toArray, List.set_cons_zero, List.set_cons_succ]
          refine wpAnyK_take (i := 5) (v := ?_) rfl (by kernel_rfl) (fun _ _ _ h => h) (Or.inl ⟨by rfl, ?_⟩) (by assumption) ?_
          rotate_left
          · (intro w hSw; (try dsimp only at hSw); (try obtain ⟨f0, f1⟩ := hSw); go_simp; try with_reducible rfl)
          try simp only [Act.put, List.getElem_toArray, List.getElem_cons_zero, List.getElem_cons_succ, List.setIfInBounds_toArray, List.set_cons_zero, List.set_cons_succ]
          refine wpAnyK_take (i := 6) (v := ?_) rfl (by kernel_rfl) (fun _ _ _ h => h) (Or.inl ⟨by rfl, ?_⟩) (by assumption) ?_
          rotate_left
          · (intro w hSw; (try dsimp only at hSw); (try obtain ⟨f0, f1⟩ := hSw); go_simp; try with_reducible rfl)
          try simp only [Act.put, List.getElem_toArray, List.getElem_cons_zero, List.getElem_cons_succ, List.setIfInBounds_toArray, List.set_cons_zero, List.set_cons_succ]
          refine wpAnyK_take (i := 7) (v := ?_) rfl (by kernel_rfl) (fun _ _ _ h => h) (Or.inl ⟨by rfl, ?_⟩) (by assumption) ?_
          rotate_left
          · (intro w hSw; (try dsimp only at hSw); (try obtain ⟨f0, f1⟩ := hSw); go_simp; try with_reducible rfl)
          try simp only [Act.put, List.getElem_toArray, List.getElem_cons_zero, List.getElem_cons_succ, List.setIfInBounds_toArray, List.set_cons_zero, List.set_cons_succ]
          refine wpAnyK_take (i := 8) (v := ?_) rfl (by kernel_rfl) (fun _ _ _ h => h) (Or.inl ⟨by rfl, ?_⟩) (by assumption) ?_
          rotate_left
          · (intro w hSw; (try dsimp only at hSw); (try obtain ⟨f0, f1⟩ := hSw); go_simp; try with_reducible rfl)
          try simp only [Act.put, List.getElem_toArray, List.getElem_cons_zero, List.getElem_cons_succ, List.setIfInBounds_toArray, List.set_cons_zero, List.set_cons_succ]
          refine wpAnyK_take (i := 9) (v := ?_) rfl (by kernel_rfl) (fun _ _ _ h => h) (Or.inl ⟨by rfl, ?_⟩) (by assumption) ?_
          rotate_left
          · (intro w hSw; (try dsimp only at hSw); (try obtain ⟨f0, f1⟩ := hSw); go_simp; try with_reducible rfl)
          try simp only [Act.put, List.getElem_toArray, List.getElem_cons_zero, List.getElem_cons_succ, List.setIfInBounds_toArray, List.set_cons_zero, List.set_cons_succ]
          refine wpAnyK_take (i := 10) (v := ?_) rfl (by kernel_rfl) (fun _ _ _ h => h) (Or.inl ⟨by rfl, ?_⟩) (by assumption) ?_
          rotate_left
          · (intro w hSw; (try dsimp only at hSw); (try obtain ⟨f0, f1⟩ := hSw); go_simp; try with_reducible rfl)
          try simp only [Act.put, List.getElem_toArray, List.getElem_cons_zero, List.getElem_cons_succ, List.setIfInBounds_toArray, List.set_cons_zero, List.set_cons_succ]
          refine wpAnyK_step (i := 11) rfl (by kernel_rfl) (fun K hK => ?_)
          go_simp
          refine hK.out _ _ ⟨(((Below.refl _ _).alloc (Nat.le_refl _) _).cell (lt_of_cell hcell)).trans hcell, (((Below.refl _ _).alloc (Nat.le_refl _) _).cell (p := ⟨B, off + k * 3 + 1, none⟩) (lt_of_cell c1)).trans c1⟩ (fun hHeld2 => ?_)
          clear hK K hHeld
          try simp only [Act.put, List.getElem_toArray, List.getElem_cons_zero, List.getElem_cons_succ, List.setIfInBounds_toArray, List.set_cons_zero, List.set_cons_succ]
          refine wpAnyK_done (by kernel_rfl) ?_
          simp only [List.drop_succ_cons, List.drop_zero]
          clear hHeld2
          go_wp2_with (at_builtin; refine wpList_append_own _ rfl _ _ 22 rfl w1.heap.size 3 j0 (.int .i64 0) 1 8 Tryz.underlying22 hj hy0 hy1 hy2 rfl (by decide) s7 k ((delK l D k).map (Value.int .i64)) rfl HO2.out ⟨wk.heap.size, 0, none⟩ 1 1 [.int .i64 (x - q.t)] rfl rfl ?k3 ?k4 (by unfold maxLen; omega) (by omega) hsz2 ?_)
          · intro j u hj
            have hj1 : j < 1 := (List.getElem?_eq_some_iff.1 hj).1
            obtain rfl : j = 0 := by omega
            cases hj
            rw [show ((⟨wk.heap.size, 0, none⟩ : Addr).add 0) = ⟨wk.heap.size, 0, none⟩ from rfl]
            exact (show ((wk.alloc (.cells #[.int .i64 (x - q.t)] 3)).drew).cell? ⟨wk.heap.size, 0, none⟩ = _ from cell_new13 rfl)
          · intro u hu; rw [List.mem_singleton.1 hu]; rfl
          intro v' w7 ho' hg' _
          have hrow : ∀ j, s7.ownBlock = some j → w1.heap.size ≤ j := fun j hj => (HO.out.1.lt j hj).1
          have HN := Lib.hid (show w7.ownsRow w1.heap.size 3 1 v' (k + 1) ((delK l D (k + 1)).map (Value.int .i64)) ∧ Below w1.heap.size w1 w7 from
            ⟨by rw [HD1.out, List.map_append]; exact ho', HB2.out.grown hg' hsz2 hrow⟩)
          clear ho' hg' hrow hcy hcell c1
          go_wp2_with fail
          go_roundw
          case rel => exact ⟨k + 1, by go_num, by omega, HN⟩
          case measure => first | (simp [intOf]; done) | (simp [intOf]; omega)
      · obtain rfl : k = nd := by omega
        have hkI : ¬ (k : Int) < (k : Int) := by omega
        obtain ⟨ga, gc, hv9, gz, gx⟩ := rowZ_of_owns HO.out.1 (by omega) (fun i hi => by
          unfold delK at hi ⊢
          rw [List.length_map, List.length_range] at hi
          rw [List.getD_eq_getElem?_getD, List.getElem?_map, List.getElem?_range hi]
          have := HDB.out i hi
          show In64 (delAt l D i)
          unfold delAt
          split
          · exact ⟨by decide, by decide⟩
          · exact ⟨by omega, by omega⟩)
        subst hv9
        have HF := Lib.hid (And.intro gz gx)
        have HBE := Lib.hid (B1.out.trans (HO.out.2.mono B1.out.size))
        have hsz1 := B1.out.size
        clear gz gx
        go_wp2_with fail
        refine bodyPost_ret (v := .tuple #[.slice ga k gc, .int .i64 0]) (by simp [results, Tryz.results24, go_sem]) rfl ?_
        exact ⟨ga, k, gc, rfl, HBE.out, by rw [delX_is HC.out, HLN.out]; exact HF.out.1, fun x hx => by have := HF.out.2 x hx; omega⟩
  · have hF : delX l D = [] := by unfold delX; rw [if_neg (by rw [HC.out]; exact hc0)]
    rw [hF]
    have hcB : (c == 0) = false := by simp [hc0]
    clear hF
    go_enter Tryz.func24, Tryz.ntmps24
    go_wp2_with fail
    refine (rbad15 a n cap l ad nd cd D c HC.out _ H.out R.out).mono ?_
    rintro e w1 ⟨rfl, hb1⟩
    have B1 := Lib.hid hb1
    clear hb1
    go_wp2_with fail
    refine bodyPost_ret (v := .tuple #[.slice none 0 0, .int .i64 c]) (by simp [results, Tryz.results24, go_sem]) rfl ?_
    exact ⟨none, 0, 0, rfl, B1.out, row_nil15 _ _ (by omega) _, (fun x hx => by cases hx)⟩
end Go.Proofs.YtkienpbmoilheaaGreat

namespace Go.Proofs.YtkienpbmoilheaaGreat
open Go.RowKit Go.Sort Go.Shelf
set_option linter.unusedSimpArgs false
set_option linter.unusedVariables false

theorem tickL_len (p : List Pk) (d : List Int) (t k : Nat) : (tickL p d t k).length ≤ k := Nat.le_trans (List.length_filter_le _ _) (arrL_len p d k)
theorem fwdL_len (p : List Pk) (d : List Int) (n : Nat) : ∀ T, (fwdL p d n T).length ≤ T * n
  | 0 => by show ([] : List Pk_a).length ≤ _; exact Nat.zero_le _
  | T + 1 => by
    show (fwdL p d n T ++ tickL p d T n).length ≤ _
    rw [List.length_append, Nat.succ_mul]
    have := fwdL_len p d n T
    have := tickL_len p d T n
    omega
/-- The packets of arrivals, and which they are. -/
def fxP (X : List Pk_a) : List Pk := X.map Pk_a.pk
def fxI (X : List Pk_a) : List Int := X.map Pk_a.i
theorem fxP_snoc (X : List Pk_a) (q : Pk_a) : fxP (X ++ [q]) = fxP X ++ [q.pk] := by unfold fxP; rw [List.map_append]; rfl
theorem fxI_snoc (X : List Pk_a) (q : Pk_a) : fxI (X ++ [q]) = fxI X ++ [q.i] := by unfold fxI; rw [List.map_append]; rfl
/-- Where the document's Forward stands: the arrivals X, N of them, are in the two lists. -/
structure FwR (X : List Pk_a) (N : Nat) (w2 : World) (v8 v9 : Value) (wx : World) : Prop where
  pas : wx.ownsRow w2.heap.size 54 3 v8 N (pkV (fxP X))
  gon : wx.ownsRow w2.heap.size 3 1 v9 N ((fxI X).map (Value.int .i64))
  below : Below w2.heap.size w2 wx
  len : X.length = N

set_option maxRecDepth 100000 in
set_option maxHeartbeats 6400000 in
theorem rforward15 (a : Option Addr) (n cap : Nat) (l : List Pk) (ad : Option Addr) (nd cd : Nat) (D : List Int) (w : World) (h : PkR w a n cap l) (h2 : RowZ w ad nd cd D) :
    Calls Tryz.prog 22 #[.slice a n cap, .slice ad nd cd] w (GivesFwd (fwdP l D) (fwdX l D) (dcode l D) w) := by
  obtain ⟨i0, hi, hz0, hz1, hz2⟩ := info_parts info_pk
  obtain ⟨j0, hj, hy0, hy1, hy2⟩ := info_parts info_int
  have H := Lib.hid h
  have R := Lib.hid h2
  have hlen := h.len
  have hnd := h2.len
  have HN := Lib.hid (And.intro h.len h2.len)
  obtain ⟨c, hc⟩ : ∃ c, dcode l D = c := ⟨_, rfl⟩
  have HC := Lib.hid hc
  rw [hc]
  clear h h2 hc
  by_cases hc0 : c = 0
  · subst hc0
    obtain ⟨hv, hl, hdg⟩ := dcode_ok HC.out
    have hn60 : n ≤ 60 := by rw [← hlen]; exact (vcode_ok hv).1
    obtain rfl : nd = n := by omega
    have HMEM := Lib.hid (fun x hx => arr_mem (l := l) (D := D) HC.out (x := x) hx)
    have hF : fwdP l D = fxP (fwdL l D nd 2000) ∧ fwdX l D = fxI (fwdL l D nd 2000) := by
      unfold fwdP fwdX
      rw [if_pos HC.out, if_pos HC.out, fwd_sort (arr_in hv HC.out).2, hlen]
      exact ⟨rfl, rfl⟩
    rw [fwd_sort (arr_in hv HC.out).2, hlen] at HMEM
    rw [hF.1, hF.2]
    have hVC := (vcode_ok hv).2.1
    have HOK := Lib.hid hVC
    clear hv hl hdg hF hlen hnd hVC
    go_enter Tryz.func22, Tryz.ntmps22
    go_wp2_with fail
    refine (rbad15 a nd cap l ad nd cd D 0 HC.out _ H.out R.out).mono ?_
    rintro e w2 ⟨rfl, hb1⟩
    have B2 := Lib.hid hb1
    clear hb1
    have HS0 := Lib.hid (show FwR (fwdL l D nd 0) 0 w2 (.slice none 0 0) (.slice none 0 0) w2 from ⟨World.ownsRow_nil _ _ _ _, World.ownsRow_nil _ _ _ _, Below.refl _ _, rfl⟩)
    go_wp2_with fail
    go_loopw [10, 8, 9] (fun s10 s8 s9 wx => ∃ (T N : Nat), s10 = .int .i64 T ∧ T ≤ 2000 ∧ N ≤ 120000 ∧ Hid (FwR (fwdL l D nd T) N w2 s8 s9 wx)) (fun s10 _ _ _ => 2000 - (intOf s10).toNat)
    case atStart => exact ⟨0, 0, by go_num, Nat.zero_le _, Nat.zero_le _, HS0⟩
    case round =>
      obtain ⟨T, N, rfl, hT, hN, HS⟩ := hrel
      obtain ⟨wk, rfl⟩ : ∃ u : World, u = wr := ⟨_, rfl⟩
      obtain ⟨s8, rfl⟩ : ∃ u : Value, u = u8 := ⟨_, rfl⟩
      obtain ⟨s9, rfl⟩ : ∃ u : Value, u = u9 := ⟨_, rfl⟩
      by_cases hlt : T < 2000
      · have hlI : (T : Int) < (2000 : Int) := by omega
        have HSI := Lib.hid (show FwR (fwdL l D nd T ++ tickL l D T 0) N w2 s8 s9 wk from by
          have : fwdL l D nd T ++ tickL l D T 0 = fwdL l D nd T := List.append_nil _
          rw [this]; exact HS.out)
        have HFL := Lib.hid (fwdL_len l D nd T)
        clear HS
        go_wp2_with fail
        go_loopw [11, 8, 9] (fun s11 s8 s9 wx => ∃ (k M : Nat), s11 = .int .i64 k ∧ k ≤ nd ∧ Hid (FwR (fwdL l D nd T ++ tickL l D T k) M w2 s8 s9 wx)) (fun s11 _ _ _ => nd - (intOf s11).toNat)
        case atStart => exact ⟨0, N, by go_num, Nat.zero_le _, HSI⟩
        case round =>
          obtain ⟨k, M, rfl, hk, HS⟩ := hrel
          obtain ⟨wi, rfl⟩ : ∃ u : World, u = wr := ⟨_, rfl⟩
          obtain ⟨t8, rfl⟩ : ∃ u : Value, u = u8 := ⟨_, rfl⟩
          obtain ⟨t9, rfl⟩ : ∃ u : Value, u = u9 := ⟨_, rfl⟩
          have hM : M ≤ 120060 := by
            rw [← HS.out.len, List.length_append]
            have h1 := HFL.out
            have h2 := tickL_len l D T k
            have h3 : T * nd ≤ 2000 * 60 := Nat.mul_le_mul hT hn60
            omega
          by_cases hkl : k < nd
          · have hkI : (k : Int) < (nd : Int) := by omega
            have HBk := Lib.hid (B2.out.trans (HS.out.below.mono B2.out.size))
            obtain ⟨B, off, q, ha, hcs, hq, hbd⟩ := (H.out.under HBk.out).at hkl
            obtain ⟨y, x, hy, hcy, hx, hxd, hx64⟩ := row_get (R.out.under HBk.out) hkl
            obtain ⟨c0, c1, c2'⟩ := hcs k q hq
            have hqd : l.getD k default = q := by rw [List.getD_eq_getElem?_getD, hq]; rfl
            have hst := tickL_succ l D T k
            rw [hxd, hqd] at hst
            have HST := Lib.hid hst
            clear hcs hq hx hbd hx64 hqd hxd hst
            rw [ha, hy]
            clear ha hy
            by_cases hxT : x = (T : Int)
            · have HX := Lib.hid (show fwdL l D nd T ++ tickL l D T (k + 1) = (fwdL l D nd T ++ tickL l D T k) ++ [⟨q.f, (T : Int) + 1, q.s, k⟩] from by rw [HST.out, if_pos hxT, List.append_assoc])
              clear HST
              subst hxT
              have hwT : IntKind.i64.wrap ((T : Int) + 1) = (T : Int) + 1 := IntWalk.i64_in _ ⟨by omega, by omega⟩
              go_upto_region 14 with fail
              obtain ⟨u0, hu⟩ : ∃ u : World, wi.alloc (.cells #[.int .i64 q.f, .int .i64 q.t, .int .i64 q.s] 54) = u := ⟨_, rfl⟩
              have hb0 : Below wi.heap.size wi u0 := by rw [← hu]; exact (Below.refl _ _).alloc (Nat.le_refl _) _
              have hx0 : u0.heap[wi.heap.size]? = some (.cells #[.int .i64 q.f, .int .i64 q.t, .int .i64 q.s] 54 (0, 0)) := by rw [← hu]; exact World.alloc_heap_new wi _
              have hf0 : ∀ o, u0.frozen? ⟨wi.heap.size, o, none⟩ = false := fun o => by simp [World.frozen?, hx0]
              rw [hu]
              have B0 := Lib.hid hb0
              have X0 := Lib.hid hx0
              obtain ⟨z0, z1, z2⟩ : u0.cell? ⟨wi.heap.size, 0, none⟩ = some (.int .i64 q.f) ∧ u0.cell? ⟨wi.heap.size, 1, none⟩ = some (.int .i64 q.t) ∧ u0.cell? ⟨wi.heap.size, 2, none⟩ = some (.int .i64 q.s) := by refine ⟨?_, ?_, ?_⟩ <;> simp [World.cell?, hx0]
              clear hu c0 c1 c2' hcy hb0 hx0
              go_upto_region 15 with fail
              obtain ⟨u, hu⟩ : ∃ u : World, u0.setCell ⟨wi.heap.size, 1, none⟩ (.int .i64 ((T : Int) + 1)) = u := ⟨_, rfl⟩
              have hx1 : u.heap[wi.heap.size]? = some (.cells #[.int .i64 q.f, .int .i64 ((T : Int) + 1), .int .i64 q.s] 54 (0, 0)) := by rw [← hu]; exact block_set 1 _ X0.out
              have hbu : Below wi.heap.size wi u := by rw [← hu]; exact B0.out.setCell (p := ⟨wi.heap.size, 1, none⟩) (Nat.le_refl _) _
              have HS1 := Lib.hid (show FwR (fwdL l D nd T ++ tickL l D T k) M w2 t8 t9 u from ⟨own_below15 HS.out.pas hbu, own_below15 HS.out.gon hbu, HS.out.below.trans (hbu.mono HS.out.below.size), HS.out.len⟩)
              rw [hu]
              clear z0 z1 z2 hf0
              obtain ⟨z0, z1, z2⟩ : u.cell? ⟨wi.heap.size, 0, none⟩ = some (.int .i64 q.f) ∧ u.cell? ⟨wi.heap.size, 1, none⟩ = some (.int .i64 ((T : Int) + 1)) ∧ u.cell? ⟨wi.heap.size, 2, none⟩ = some (.int .i64 q.s) := by refine ⟨?_, ?_, ?_⟩ <;> simp [World.cell?, hx1]
              clear hu hbu hx1
              have hsz0 := HS1.out.below.size
              go_wp2_with (at_builtin; refine wpList_append_own _ rfl _ _ 25 rfl w2.heap.size 54 i0 (.agg #[.int .i64 0, .int .i64 0, .int .i64 0]) 3 24 Tryz.underlying25 hi hz0 hz1 hz2 rfl (by decide) t8 M (pkV (fxP (fwdL l D nd T ++ tickL l D T k))) rfl (HS1.out.pas.alloc _) ⟨u.heap.size, 0, none⟩ 1 1 [.int .i64 q.f, .int .i64 ((T : Int) + 1), .int .i64 q.s] rfl rfl (newsG u ⟨q.f, (T : Int) + 1, q.s⟩ _) (onesG ⟨q.f, (T : Int) + 1, q.s⟩) (by unfold maxLen; omega) (by omega) (by simp; omega) ?_)
              intro v' w5 ho' hg' _
              have hrow : ∀ j, t8.ownBlock = some j → w2.heap.size ≤ j := fun j hj => (HS1.out.pas.lt j hj).1
              have HB5 := Lib.hid (show Below w2.heap.size u w5 from ((Below.refl w2.heap.size u).alloc HS1.out.below.size _).trans (grownBy_below hg' hrow (by simp; omega)))
              have HP5 := Lib.hid (show w5.ownsRow w2.heap.size 54 3 v' (M + 1) (pkV (fxP ((fwdL l D nd T ++ tickL l D T k) ++ [⟨q.f, (T : Int) + 1, q.s, k⟩]))) from by rw [fxP_snoc, pkV_append]; exact ho')
              have HG5 := Lib.hid (show w5.ownsRow w2.heap.size 3 1 t9 M ((fxI (fwdL l D nd T ++ tickL l D T k)).map (Value.int .i64)) from (HS1.out.gon.alloc _).kept hg' (rows_ne15 HS1.out.gon HS1.out.pas (by decide)))
              clear ho' hg' hrow z0 z1 z2
              have hsz5 := HB5.out.size
              go_wp2_with (at_builtin; refine wpList_append_own _ rfl _ _ 22 rfl w2.heap.size 3 j0 (.int .i64 0) 1 8 Tryz.underlying22 hj hy0 hy1 hy2 rfl (by decide) t9 M ((fxI (fwdL l D nd T ++ tickL l D T k)).map (Value.int .i64)) rfl (HG5.out.alloc _) ⟨w5.heap.size, 0, none⟩ 1 1 [.int .i64 (k : Int)] rfl rfl ?k1 ?k2 (by unfold maxLen; omega) (by omega) (by simp; omega) ?_)
              case k1 =>
                intro j u hj
                have hj1 : j < 1 := (List.getElem?_eq_some_iff.1 hj).1
                obtain rfl : j = 0 := by omega
                cases hj
                rw [show ((⟨w5.heap.size, 0, none⟩ : Addr).add 0) = ⟨w5.heap.size, 0, none⟩ from rfl]
                exact cell_new13 rfl
              case k2 => intro u hu; rw [List.mem_singleton.1 hu]; rfl
              intro v'' w7 ho' hg' _
              have hrow : ∀ j, t9.ownBlock = some j → w2.heap.size ≤ j := fun j hj => (HG5.out.lt j hj).1
              have HN7 := Lib.hid (show FwR (fwdL l D nd T ++ tickL l D T (k + 1)) (M + 1) w2 v' v'' w7 from by
                rw [HX.out]
                exact ⟨(HP5.out.alloc _).kept hg' (rows_ne15 HP5.out HG5.out (by decide)),
                  by rw [fxI_snoc, List.map_append]; exact ho',
                  HS1.out.below.trans (HB5.out.trans (((Below.refl w2.heap.size w5).alloc (by omega) _).trans (grownBy_below hg' hrow (by simp; omega)))),
                  by rw [List.length_append, HS1.out.len]; rfl⟩)
              clear ho' hg' hrow
              go_wp2_with fail
              go_roundw
              case rel => exact ⟨k + 1, M + 1, by go_num, by omega, HN7⟩
              case measure => first | (simp [intOf]; done) | (simp [intOf]; omega)
            · have hxb : (x == (T : Int)) = false := by simp [hxT]
              have HS1 := Lib.hid (show FwR (fwdL l D nd T ++ tickL l D T (k + 1)) M w2 t8 t9 wi from by rw [HST.out, if_neg hxT, List.append_nil]; exact HS.out)
              clear HST
              go_wp2_with fail
              go_roundw
              case rel => exact ⟨k + 1, M, by go_num, by omega, HS1⟩
              case measure => first | (simp [intOf]; done) | (simp [intOf]; omega)
          · obtain rfl : k = nd := by omega
            have hkI : ¬ (k : Int) < (k : Int) := by omega
            have hMN : M ≤ 120000 := by
              rw [← HS.out.len]
              have h1 := fwdL_len l D k (T + 1)
              have h3 : (T + 1) * k ≤ 2000 * 60 := Nat.mul_le_mul (by omega) hn60
              have h4 : (fwdL l D k T ++ tickL l D T k).length = (fwdL l D k (T + 1)).length := rfl
              omega
            go_wp2_with fail
            go_roundw
            case rel => exact ⟨T + 1, M, by go_num, by omega, hMN, HS⟩
            case measure => first | (simp [intOf]; done) | (simp [intOf]; omega)
      · obtain rfl : T = 2000 := by omega
        have hlI : ¬ ((2000 : Nat) : Int) < (2000 : Int) := by omega
        have hl2 : ((2000 : Nat) : Int) = 2000 := rfl
        obtain ⟨hpl, pa, pc, hv8, p1, p2, p3, p4⟩ := pkO_of_owns HS.out.pas
        obtain ⟨ga, gc, hv9, gz, gx⟩ := rowZ_of_owns HS.out.gon (by omega) (fun i hi => by
          unfold fxI at hi ⊢
          rw [List.length_map] at hi
          rw [List.getD_eq_getElem?_getD, List.getElem?_map, List.getElem?_eq_getElem hi]
          obtain ⟨j, q, h1, _, _, _, h5, _⟩ := HMEM.out _ (List.getElem_mem hi)
          have hjl := (List.getElem?_eq_some_iff.1 h1).1
          show In64 ((fwdL l D nd 2000)[i]).i
          rw [h5]
          have := HN.out.1
          exact ⟨by show _ ≤ (j : Int); omega, by show (j : Int) ≤ _; omega⟩)
        subst hv8 hv9
        have HF := Lib.hid (show PkR wk pa N pc (fxP (fwdL l D nd 2000)) ∧ RowZ wk ga N gc (fxI (fwdL l D nd 2000)) ∧ (∀ x, pa = some x → w2.heap.size ≤ x.block) ∧ ∀ x, ga = some x → w2.heap.size ≤ x.block from ⟨⟨hpl, p1, by omega, p2, by
          rcases p4 with ⟨_, h0⟩ | ⟨g', hga, _, hgo⟩
          · exact .inl ⟨h0, fun _ _ => trivial⟩
          · exact .inr ⟨g', 0, hga, hgo.cells⟩, fun q hq => by
          obtain ⟨x, hx, rfl⟩ := List.mem_map.1 hq
          obtain ⟨i, q0, h1, h2, h3, h4, h5, h6⟩ := HMEM.out x hx
          have h7 := (okP_iff q0).1 h6
          subst h5
          exact ⟨⟨by show _ ≤ q0.f; omega, by show q0.f ≤ _; omega⟩, ⟨by show _ ≤ D.getD i 0 + 1; omega, by show D.getD i 0 + 1 ≤ _; omega⟩, ⟨by show _ ≤ q0.s; omega, by show q0.s ≤ _; omega⟩⟩⟩, gz, p3, gx⟩)
        have HBE := Lib.hid (B2.out.trans (HS.out.below.mono B2.out.size))
        have hsz2 := B2.out.size
        clear hpl p1 p2 p3 p4 gz gx
        go_wp2_with fail
        refine bodyPost_ret (v := .tuple #[.slice pa N pc, .slice ga N gc, .int .i64 0]) (by simp [results, Tryz.results22, go_sem]) rfl ?_
        exact ⟨pa, N, pc, ga, N, gc, rfl, HBE.out, HF.out.1, HF.out.2.1, fun x hx => by have := HF.out.2.2.1 x hx; omega, fun x hx => by have := HF.out.2.2.2 x hx; omega⟩
  · have hF : fwdP l D = [] ∧ fwdX l D = [] := by
      unfold fwdP fwdX
      rw [if_neg (by rw [HC.out]; exact hc0), if_neg (by rw [HC.out]; exact hc0)]
      exact ⟨rfl, rfl⟩
    rw [hF.1, hF.2]
    have hcB : (c == 0) = false := by simp [hc0]
    clear hF
    go_enter Tryz.func22, Tryz.ntmps22
    go_wp2_with fail
    refine (rbad15 a n cap l ad nd cd D c HC.out _ H.out R.out).mono ?_
    rintro e w1 ⟨rfl, hb1⟩
    have B1 := Lib.hid hb1
    clear hb1
    go_wp2_with fail
    refine bodyPost_ret (v := .tuple #[.slice none 0 0, .slice none 0 0, .int .i64 c]) (by simp [results, Tryz.results22, go_sem]) rfl ?_
    exact ⟨none, 0, 0, none, 0, 0, rfl, B1.out, pkR_nil _, ⟨rfl, Nat.le_refl _, Nat.zero_le _, by omega, fun i hi => absurd hi (Nat.not_lt_zero _), fun i hi => absurd hi (Nat.not_lt_zero _)⟩, (fun x hx => by cases hx), (fun x hx => by cases hx)⟩
end Go.Proofs.YtkienpbmoilheaaGreat
