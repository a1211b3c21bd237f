/- Chain and Best of the document, of a list of paces at whatever address. By the verifier's side. -/
import Derived.Test.YtjipmkgnndldpaaESvV
import Derived.Test.YtjipmkgnndldpaaESvHSvI
import Derived.Test.YtjipmkgnndldpaaESvT
import Derived.Test.YtjipmkgnndldpaaEConER
import Derived.Test.YtjipmkgnndldpaaER5D
import Derived.Test.YtjipmkgnndldpaaEPwSPwU
import Derived.Deep.RegionWith
namespace Go.Proofs.Ytjipmkgnndldpaa
open Go.RowKit
set_option linter.unusedSimpArgs false
set_option linter.unusedVariables false

/-- The document's pace so far in box L, the list of paces, the empty result. -/
structure DpC (w wx : World) (B off : Nat) (bs : List Bkt) (L : Nat) (x0 x1 x2 x3 : Int) : Prop where
  res : Pq4 wx w.heap.size 0 0 0 0
  box : Pq4 wx L x0 x1 x2 x3
  row : RowC wx B off bs
  lt : w.heap.size < L
  ne : B ≠ L
  below : Below w.heap.size w wx
section
variable {w u v : World} {B off : Nat} {bs : List Bkt} {L : Nat} {x0 x1 x2 x3 : Int}
theorem DpC.call (h : DpC w u B off bs L x0 x1 x2 x3) (hb : Below u.heap.size u v) : DpC w v B off bs L x0 x1 x2 x3 :=
  ⟨h.res.below hb, h.box.below hb, h.row.under hb, h.lt, h.ne, h.below.trans (hb.mono h.below.size)⟩
theorem DpC.put01 (h : DpC w u B off bs L x0 x1 x2 x3) (x y : Int) : DpC w ((u.setCell ⟨L, 0, none⟩ (.int .i64 x)).setCell ⟨L, 1, none⟩ (.int .i64 y)) B off bs L x y x2 x3 := by
  have hl := h.lt
  exact ⟨(h.res.other (by omega) _ _).other (by omega) _ _, h.box.put01 x y, (h.row.other h.ne _ _).other h.ne _ _, hl, h.ne, (h.below.setCell (p := ⟨L, 0, none⟩) (by show w.heap.size ≤ L; omega) _).setCell (p := ⟨L, 1, none⟩) (by show w.heap.size ≤ L; omega) _⟩
theorem DpC.put23 (h : DpC w u B off bs L x0 x1 x2 x3) (x y : Int) : DpC w ((u.setCell ⟨L, 2, none⟩ (.int .i64 x)).setCell ⟨L, 3, none⟩ (.int .i64 y)) B off bs L x0 x1 x y := by
  have hl := h.lt
  exact ⟨(h.res.other (by omega) _ _).other (by omega) _ _, h.box.put23 x y, (h.row.other h.ne _ _).other h.ne _ _, hl, h.ne, (h.below.setCell (p := ⟨L, 2, none⟩) (by show w.heap.size ≤ L; omega) _).setCell (p := ⟨L, 3, none⟩) (by show w.heap.size ≤ L; omega) _⟩
end

set_option maxRecDepth 100000 in
set_option maxHeartbeats 6400000 in
theorem rchainC (B off K cap : Nat) (bs : List Bkt) (hk : bs.length = K) (hK : K ≤ 1000) (hcap : K ≤ cap) (w : World) (h : RowC w B off bs) :
    Calls Try.prog 27 #[.slice (some ⟨B, off, none⟩) K cap] w (GivesPk (chainA bs) w) := by
  have KR := Lib.hid (Pq4.new w 0 0 0 0 25)
  have hB := below_box (w := w) (.cells #[.int .i64 0, .int .i64 0, .int .i64 0, .int .i64 0] 25)
  have HL := Lib.hid (h.under hB)
  have HB := Lib.hid hB
  have HK := Lib.hid hk
  clear h hB
  obtain ⟨ans, hans⟩ : ∃ r, chainA bs = r := ⟨_, rfl⟩
  rw [hans]
  have HA := Lib.hid hans
  clear hans
  obtain ⟨W, hW⟩ : ∃ W, w.alloc (.cells #[.int .i64 0, .int .i64 0, .int .i64 0, .int .i64 0] 25) = W := ⟨_, rfl⟩
  have HWS := Lib.hid (show W.heap.size = w.heap.size + 1 by rw [← hW]; simp)
  rw [hW] at KR HL HB
  have HW := Lib.hid hW
  clear hW hk
  go_enter Try.func27, Try.ntmps27
  go_upto_region 1 with fail
  rw [HW.out]
  clear HW
  go_wp2_with fail
  go_loopw [4] (fun s4 wx => ∃ k : Nat, s4 = .int .i64 k ∧ k ≤ K ∧ Hid (∀ (i : Nat) (b : Bkt), i < k → bs[i]? = some b → b.ok = true) ∧ Hid (Below W.heap.size W wx)) (fun s4 _ => K - (intOf s4).toNat)
  case atStart => exact ⟨0, by go_num, Nat.zero_le _, fun i b hi => absurd hi (Nat.not_lt_zero _), Below.refl _ _⟩
  case round =>
    obtain ⟨k, rfl, hk, hall, HX⟩ := hrel
    obtain ⟨wk, rfl⟩ : ∃ u : World, u = wr := ⟨_, rfl⟩
    by_cases hlt : k < K
    · obtain ⟨b, hc⟩ : ∃ b, bs[k]? = some b := ⟨_, List.getElem?_eq_getElem (by have := HK.out; omega)⟩
      obtain ⟨ok, hok⟩ : ∃ o, b.ok = o := ⟨_, rfl⟩
      have HC := Lib.hid (And.intro hc hok)
      have HOK := Lib.hid (show (okB b.bn b.bd && okB b.rn b.rd) = ok from hok)
      have hki : (k : Int) < (K : Int) := by omega
      clear hc hok
      go_upto_region 4 with fail
      have HX1 := Lib.hid (HX.out.trans ((Below.refl wk.heap.size wk).drew.mono HX.out.size))
      obtain ⟨y0, y1, y2, y3⟩ := (HL.out.under HX1.out).at0 HC.out.1
      go_cut [25] (fun s25 wx => s25 = .bool (!ok) ∧ Hid (Below W.heap.size W wx))
      case first =>
        go_region_with (go_at_call 97; (with_reducible refine (rgood2_any b.bn b.bd b.rn b.rd ok HOK.out _).mono ?_); rintro e x1 ⟨rfl, hb⟩; have HX2 := Lib.hid (HX1.out.trans (hb.mono HX1.out.size)); clear hb)
        all_goals
          go_wp2_with fail
          go_meet
          exact ⟨rfl, HX2⟩
      case rest =>
      obtain ⟨rfl, HX2⟩ := hcut
      obtain ⟨w2, rfl⟩ : ∃ u : World, u = wc := ⟨_, rfl⟩
      clear y0 y1 y2 y3 HX HX1
      cases ok with
      | false =>
        have HZ := Lib.hid (HA.out.symm.trans (chainA_bad (badL_of HC.out.1 HC.out.2)))
        obtain ⟨e0, e1, e2, e3, e4, e5, e6, e7⟩ := KR.out.below HX2.out
        go_wp2_with fail
        refine bodyPost_ret (v := .tuple #[bucketV 0 0 0 0, .int .i64 2]) (by simp [results, Try.results27, go_sem, e0, e1, e2, e3, e4, e5, e6, e7]) rfl ?_
        rw [HZ.out]; exact ⟨rfl, svbelow4 (HB.out.trans (HX2.out.mono HB.out.size)) (Nat.le_refl _) _ _ _ _⟩
      | true =>
        have hall2 := Lib.hid (show ∀ (i : Nat) (c : Bkt), i < k + 1 → bs[i]? = some c → c.ok = true from fun i c hi hcc => by
          by_cases he : i = k
          · subst he; rw [HC.out.1] at hcc; cases hcc; exact HC.out.2
          · exact hall.out i c (by omega) hcc)
        go_wp2_with fail
        go_roundw
        case rel => exact ⟨k + 1, by go_num, by omega, hall2, HX2⟩
        case measure => simp [intOf]; omega
    · obtain rfl : k = K := by omega
      have hki : ¬ (k : Int) < (k : Int) := by omega
      have HBD := Lib.hid (badL_not (fun i b hb => hall.out i b (by have := (List.getElem?_eq_some_iff.1 hb).1; have := HK.out; omega) hb))
      by_cases h00 : k = 0
      · have HZ := Lib.hid (HA.out.symm.trans (chainA_zero (by have := HK.out; omega)))
        have h0b : ((k : Int) == 0) = true := by simpa using h00
        clear h00
        obtain ⟨e0, e1, e2, e3, e4, e5, e6, e7⟩ := KR.out.below HX.out
        go_wp2_with fail
        refine bodyPost_ret (v := .tuple #[bucketV 0 0 0 0, .int .i64 2]) (by simp [results, Try.results27, go_sem, e0, e1, e2, e3, e4, e5, e6, e7]) rfl ?_
        rw [HZ.out]; exact ⟨rfl, svbelow4 (HB.out.trans (HX.out.mono HB.out.size)) (Nat.le_refl _) _ _ _ _⟩
      obtain ⟨K, hKK⟩ : ∃ n, k = n := ⟨_, rfl⟩
      rw [hKK] at HK hK hcap h00 hki ⊢
      clear hKK hall
      have h0b : ((K : Int) == 0) = false := by simpa using h00
      have h0i : ¬ (K : Int) = 0 := by omega
      have h0 : 1 ≤ K := by omega
      have HANS := Lib.hid (HA.out.symm.trans (chainA_fold (by have := HK.out; omega) HBD.out))
      obtain ⟨b0, hb0⟩ : ∃ b, bs[0]? = some b := ⟨_, List.getElem?_eq_getElem (by have := HK.out; omega)⟩
      have HR0 := Lib.hid (show chainF bs 0 = ⟨b0.bn, b0.bd, b0.rn, b0.rd, 0⟩ by unfold chainF; rw [getD_some hb0])
      obtain ⟨c0, c1, c2, c3⟩ := (HL.out.under HX.out).at0 hb0
      simp only [Nat.zero_mul, Nat.add_zero] at c0 c1 c2 c3
      obtain ⟨w3, hw⟩ : ∃ w', wk.alloc (.cells #[.int .i64 b0.bn, .int .i64 b0.bd, .int .i64 b0.rn, .int .i64 b0.rd] 25) = w' := ⟨_, rfl⟩
      have hz : Below wk.heap.size wk w3 := by rw [← hw]; exact below_box _
      have hBw : B < wk.heap.size := lt_of_cell c0
      have S0 := Lib.hid (show DpC w w3 B off bs wk.heap.size b0.bn b0.bd b0.rn b0.rd from ⟨(KR.out.below HX.out).below hz, by rw [← hw]; exact Pq4.new _ _ _ _ _ _, (HL.out.under HX.out).under hz, by have h1 := (KR.out.below HX.out).lt; exact h1, by omega, (HB.out.trans (HX.out.mono HB.out.size)).trans (hz.mono (HB.out.trans (HX.out.mono HB.out.size)).size)⟩)
      have HW3 := Lib.hid hw
      clear hw hz hBw hb0 h00
      go_upto_region 9 with fail
      try rw [HW3.out]
      obtain ⟨L, hL⟩ : ∃ L, wk.heap.size = L := ⟨_, rfl⟩
      rw [hL] at S0
      try rw [hL]
      clear HW3 hL c0 c1 c2 c3 hki hlt
      go_wp2_with fail
      go_loopw [6] (fun s6 wx => ∃ (k : Nat) (r : Pk), s6 = .int .i64 ((k + 1 : Nat) : Int) ∧ r.c = 0 ∧ k + 1 ≤ K ∧ Hid (chainF bs k = r) ∧ Hid (DpC w wx B off bs L r.rn r.rd r.ln r.ld)) (fun s6 _ => K - (intOf s6).toNat)
      case atStart => exact ⟨0, ⟨b0.bn, b0.bd, b0.rn, b0.rd, 0⟩, by go_num, rfl, h0, HR0, S0⟩
      case round =>
        obtain ⟨k, r, rfl, hc0, hk, HF, HS⟩ := hrel
        obtain ⟨wk, rfl⟩ : ∃ u : World, u = wr := ⟨_, rfl⟩
        obtain ⟨j, hj⟩ : ∃ j : Nat, k + 1 = j := ⟨_, rfl⟩
        have hjj : ((k + 1 : Nat) : Int) = (j : Int) := by omega
        rw [hjj]
        by_cases hlt : j < K
        · obtain ⟨b, hb⟩ : ∃ b, bs[k + 1]? = some b := ⟨_, List.getElem?_eq_getElem (by have := HK.out; omega)⟩
          have hki : (j : Int) < (K : Int) := by omega
          have hkd : decide ((j : Int) < (K : Int)) = true := decide_eq_true hki
          obtain ⟨cm, hcm⟩ : ∃ c, compareF b.bn b.bd r.rn r.rd = c := ⟨_, rfl⟩
          obtain ⟨⟨sn, sd, se⟩, hsm⟩ : ∃ s, addF r.ln r.ld b.rn b.rd = s := ⟨_, rfl⟩
          obtain ⟨⟨m, n⟩, hmn⟩ : ∃ s, (if cm < 0 then (b.bn, b.bd) else (r.rn, r.rd)) = s := ⟨_, rfl⟩
          have HNX := Lib.hid (show chainF bs (k + 1) = if se = 0 then ⟨m, n, sn, sd, 0⟩ else ⟨0, 0, 0, 0, se⟩ from chainF_n (by rw [HF.out]; exact hc0) hb (by rw [HF.out, hcm]; exact hmn) (by rw [HF.out]; exact hsm))
          have HCM := Lib.hid hcm
          have HSM := Lib.hid hsm
          have HMN := Lib.hid hmn
          have HBK := Lib.hid (show bs[j]? = some b by rw [← hj]; exact hb)
          have HJ := Lib.hid hj
          clear hcm hsm hmn hb hc0 hj hjj
          -- the comparison
          go_upto_region 12 with fail
          have S1 := Lib.hid (HS.out.call (Below.refl wk.heap.size wk).drew)
          obtain ⟨y0, y1, y2, y3⟩ := S1.out.row.at0 HBK.out
          obtain ⟨d0, d1, d2, d3, _, _, _, _⟩ := S1.out.box
          go_cut [48] (fun s48 wx => s48 = .bool (decide (cm < 0)) ∧ Hid (DpC w wx B off bs L r.rn r.rd r.ln r.ld))
          case first =>
            go_region_with (go_at_call 32; (with_reducible refine (rcompare_all b.bn b.bd r.rn r.rd _).mono ?_); rintro e x1 ⟨rfl, hb⟩; rw [HCM.out]; have S2 := Lib.hid (S1.out.call hb); clear hb)
            all_goals
              go_wp2_with fail
              go_meet
              exact ⟨rfl, S2⟩
          case rest =>
          obtain ⟨rfl, S2⟩ := hcut
          obtain ⟨w2, rfl⟩ : ∃ u : World, u = wc := ⟨_, rfl⟩
          clear y0 y1 y2 y3 d0 d1 d2 d3 HS S1
          -- the rate
          go_upto_if 48 with fail
          go_cut [] (fun wx => Hid (DpC w wx B off bs L m n r.ln r.ld))
          case first =>
            by_cases hc : cm < 0
            · have hcd : decide (cm < 0) = true := decide_eq_true hc
              have HE := HMN.out
              rw [if_pos hc] at HE
              cases HE
              have S3 := Lib.hid (S2.out.put01 b.bn b.bd)
              obtain ⟨y0, y1, y2, y3⟩ := S2.out.row.at0 HBK.out
              obtain ⟨d0, d1, d2, d3, d4, d5, d6, d7⟩ := S2.out.box
              rw [hcd]
              clear hc hcd
              go_wp2_with fail
              go_meet
              exact S3
            · have hcd : decide (cm < 0) = false := decide_eq_false hc
              have HE := HMN.out
              rw [if_neg hc] at HE
              cases HE
              rw [hcd]
              clear hc hcd
              go_wp2_with fail
              go_meet
              exact S2
          case rest =>
          obtain ⟨w3, rfl⟩ : ∃ u : World, u = wc := ⟨_, rfl⟩
          have S3 := hcut
          clear hcut S2
          -- the latency
          go_upto_region 15 with fail
          have S4 := Lib.hid (S3.out.call (Below.refl w3.heap.size w3).drew)
          obtain ⟨y0, y1, y2, y3⟩ := S4.out.row.at0 HBK.out
          obtain ⟨d0, d1, d2, d3, _, _, _, _⟩ := S4.out.box
          go_cut [7] (fun s7 wx => s7 = .int .i64 se ∧ Hid (DpC w wx B off bs L m n sn sd))
          case first =>
            go_region_with (go_at_call 36; (with_reducible refine (radd_all r.ln r.ld b.rn b.rd _).mono ?_); rintro e x1 ⟨rfl, hb⟩; rw [HSM.out]; have S5 := Lib.hid (S4.out.call hb); clear hb; obtain ⟨g0, g1, g2, g3, g4, g5, g6, g7⟩ := S5.out.box)
            all_goals
              have S6 := Lib.hid (S5.out.put23 sn sd)
              go_wp2_with fail
              go_meet
              exact ⟨rfl, S6⟩
          case rest =>
          obtain ⟨rfl, S6⟩ := hcut
          obtain ⟨w4, rfl⟩ : ∃ u : World, u = wc := ⟨_, rfl⟩
          clear y0 y1 y2 y3 d0 d1 d2 d3 S3 S4
          by_cases hse : se = 0
          · subst hse
            have HN1 := Lib.hid (show chainF bs (k + 1) = ⟨m, n, sn, sd, 0⟩ by rw [HNX.out, if_pos rfl])
            go_wp2_with fail
            go_roundw
            case rel => exact ⟨k + 1, ⟨m, n, sn, sd, 0⟩, by rw [← HJ.out]; go_num, rfl, by have := HJ.out; omega, HN1, S6⟩
            case measure => simp [intOf]; omega
          · have hsb : (se != 0) = true := by simpa using hse
            have hsb2 : (se == 0) = false := by simpa using hse
            have HZ := Lib.hid (show ans = ⟨0, 0, 0, 0, se⟩ by
              have h1 : chainF bs (k + 1) = ⟨0, 0, 0, 0, se⟩ := by rw [HNX.out, if_neg hse]
              have h := chainF_stop (bs := bs) (k := k + 1) (by rw [h1]; exact hse) (bs.length - 1 - (k + 1))
              rw [h1, show k + 1 + (bs.length - 1 - (k + 1)) = bs.length - 1 by have := HK.out; have := HJ.out; omega] at h
              rw [HANS.out, h])
            clear hse
            obtain ⟨e0, e1, e2, e3, e4, e5, e6, e7⟩ := S6.out.res
            go_wp2_with fail
            refine bodyPost_ret (v := .tuple #[bucketV 0 0 0 0, .int .i64 se]) (by simp [results, Try.results27, go_sem, e0, e1, e2, e3, e4, e5, e6, e7]) rfl ?_
            rw [HZ.out]; exact ⟨rfl, svbelow4 S6.out.below (Nat.le_refl _) _ _ _ _⟩
        · have hki : ¬ (j : Int) < (K : Int) := by omega
          have HZ := Lib.hid (show ans = r by rw [HANS.out, ← HF.out, show bs.length - 1 = k by have := HK.out; omega])
          obtain ⟨d0, d1, d2, d3, _, _, _, _⟩ := HS.out.box
          obtain ⟨e0, e1, e2, e3, e4, e5, e6, e7⟩ := HS.out.res
          have hl1 := HS.out.lt
          have hl2 : ¬ w.heap.size = L := by omega
          have hl3 : ¬ L = w.heap.size := by omega
          have HRC := Lib.hid hc0
          go_wp2_with fail
          refine bodyPost_ret (v := .tuple #[bucketV r.rn r.rd r.ln r.ld, .int .i64 0]) (by simp [results, Try.results27, go_sem, e0, e1, e2, e3, e4, e5, e6, e7]) rfl ?_
          rw [HZ.out]
          exact ⟨by rw [HRC.out], svbelow4 HS.out.below (Nat.le_refl _) _ _ _ _⟩

set_option maxHeartbeats 800000 in
theorem rchainC_nil (A : Option Addr) (cap : Nat) (w : World) : Calls Try.prog 27 #[.slice A 0 cap] w (GivesPk (chainA []) w) := by
  rw [chainA_zero (bs := []) rfl]
  have KR := Lib.hid (Pq4.new w 0 0 0 0 25)
  have HB := Lib.hid (below_box (w := w) (.cells #[.int .i64 0, .int .i64 0, .int .i64 0, .int .i64 0] 25))
  go_enter Try.func27, Try.ntmps27
  go_upto_region 1 with fail
  generalize w.alloc (.cells #[.int .i64 0, .int .i64 0, .int .i64 0, .int .i64 0] 25) = W at KR HB ⊢
  obtain ⟨e0, e1, e2, e3, e4, e5, e6, e7⟩ := KR.out
  go_wp2_with fail
  go_loopw [4] (fun s4 wx => s4 = .int .i64 0 ∧ wx = W) (fun s4 _ => 0)
  case atStart => exact ⟨rfl, rfl⟩
  case round =>
    obtain ⟨rfl, rfl⟩ := hrel
    go_wp2_with fail
    exact bodyPost_ret (v := .tuple #[bucketV 0 0 0 0, .int .i64 2]) (by simp [results, Try.results27, go_sem, e0, e1, e2, e3, e4, e5, e6, e7]) rfl ⟨rfl, svbelow4 HB.out (Nat.le_refl _) _ _ _ _⟩

end Go.Proofs.Ytjipmkgnndldpaa
