/- Chain and Best of the program, of a list of paces at whatever address. By the verifier's side. -/
import Derived.Test.YtjipmkgnndldpaaESvHSvI
import Derived.Test.YtjipmkgnndldpaaEBkC
namespace Go.Proofs.Ytjipmkgnndldpaa
open Go.RowKit
set_option linter.unusedSimpArgs false
set_option linter.unusedVariables false

theorem RowC.other4 {u : World} {B off L : Nat} {bs : List Bkt} (h : RowC u B off bs) (hq : B ≠ L) (y0 y1 y2 y3 : Value) : RowC ((((u.setCell ⟨L, 0, none⟩ y0).setCell ⟨L, 1, none⟩ y1).setCell ⟨L, 2, none⟩ y2).setCell ⟨L, 3, none⟩ y3) B off bs :=
  (((h.other hq _ _).other hq _ _).other hq _ _).other hq _ _
set_option maxHeartbeats 800000 in
theorem chainC_nil (A : Option Addr) (cap : Nat) (w : World) : Calls Try.prog 26 #[.slice A 0 cap] w (GivesPk (chainA []) w) := by
  rw [chainA_zero (bs := []) rfl]
  have KR := Lib.hid (Pq4.new w 0 0 0 0 25)
  have HB := Lib.hid (below_box (w := w) (.cells #[.int .i64 0, .int .i64 0, .int .i64 0, .int .i64 0] 25))
  go_enter Try.func26, Try.ntmps26
  go_upto_region 1 with fail
  generalize w.alloc (.cells #[.int .i64 0, .int .i64 0, .int .i64 0, .int .i64 0] 25) = W at KR HB ⊢
  obtain ⟨e0, e1, e2, e3, e4, e5, e6, e7⟩ := KR.out
  go_wp2_with fail
  exact bodyPost_ret (v := .tuple #[bucketV 0 0 0 0, .int .i64 2]) (by simp [results, Try.results26, go_sem, e0, e1, e2, e3, e4, e5, e6, e7]) rfl ⟨rfl, svbelow4 HB.out (Nat.le_refl _) _ _ _ _⟩

set_option maxHeartbeats 800000 in
theorem svindexC (B off K cap : Nat) (bs : List Bkt) (hk : bs.length = K) (hK : K ≤ 1000) (w : World) (h : RowC w B off bs) :
    Calls Try.prog 194 #[.slice (some ⟨B, off, none⟩) K cap, .func (.func 95) #[] #[]] w fun e w' => ∃ r : Int, -1 ≤ r ∧ r ≤ 1000 ∧ decide (0 ≤ r) = badL bs ∧ e = .returned (.int .i64 r) ∧ Below w.heap.size w w' := by
  have H := Lib.hid h
  have HK := Lib.hid hk
  clear h hk
  go_enter Try.func194, Try.ntmps194
  go_wp2_with fail
  go_loopw [8] (fun vi wx => ∃ k : Nat, vi = .int .i64 k ∧ k ≤ K ∧ Hid (∀ (i : Nat) (b : Bkt), i < k → bs[i]? = some b → b.ok = true) ∧ Hid (Below w.heap.size w wx)) (fun vi _ => K - (intOf vi).toNat)
  case atStart => exact ⟨0, by go_num, Nat.zero_le _, fun i b hi => absurd hi (Nat.not_lt_zero _), Below.refl _ _⟩
  case round =>
    obtain ⟨k, rfl, hk, hall, HW⟩ := hrel
    obtain ⟨wk, rfl⟩ : ∃ u : World, u = wr := ⟨_, rfl⟩
    by_cases hlt : k < K
    · obtain ⟨b, hc⟩ : ∃ b, bs[k]? = some b := ⟨_, List.getElem?_eq_getElem (by rw [HK.out]; exact hlt)⟩
      obtain ⟨c0, c1, c2, c3⟩ := (H.out.under HW.out).at0 hc
      obtain ⟨ok, hok⟩ : ∃ o, b.ok = o := ⟨_, rfl⟩
      have HC := Lib.hid (And.intro hc hok)
      have hlI : (k : Int) < (K : Int) := by omega
      clear hc hok
      go_wp2_with fail
      clear c0 c1 c2 c3
      refine (svfaulty_any b.bn b.bd b.rn b.rd ok HC.out.2 _).mono ?_
      rintro e w1 ⟨rfl, hb⟩
      have HW1 := Lib.hid (HW.out.trans (hb.mono HW.out.size))
      clear hb
      cases ok with
      | false =>
        go_wp2_with fail
        go_ret
        exact ⟨k, by omega, by omega, by rw [badL_of HC.out.1 HC.out.2]; simp, rfl, HW1.out⟩
      | true =>
        have hall2 := Lib.hid (show ∀ i c, i < k + 1 → bs[i]? = some c → c.ok = true from fun i c hi hc => by
          by_cases he : i = k
          · subst he; rw [HC.out.1] at hc; cases hc; exact HC.out.2
          · exact hall.out i c (by omega) hc)
        go_wp2_with fail
        go_roundw
        case rel => exact ⟨k + 1, by go_num, by omega, hall2, HW1⟩
        case measure => simp [intOf]; omega
    · obtain rfl : k = K := by omega
      go_wp2_with fail
      go_ret
      exact ⟨-1, by omega, by omega, by rw [badL_not (fun i b hb => hall.out i b (by have := (List.getElem?_eq_some_iff.1 hb).1; have := HK.out; omega) hb)]; simp, rfl, HW.out⟩

set_option maxHeartbeats 400000 in
theorem svcontainsC (B off K cap : Nat) (bs : List Bkt) (hk : bs.length = K) (hK : K ≤ 1000) (c : Bool) (hc : badL bs = c) (w : World) (h : RowC w B off bs) :
    Calls Try.prog 100 #[.slice (some ⟨B, off, none⟩) K cap, .func (.func 95) #[] #[]] w (Says (.bool c) w) := by
  have H := Lib.hid h
  have HB := Lib.hid (And.intro hc hk)
  clear h hc hk
  go_enter Try.func100, Try.ntmps100
  go_wp2_with fail
  refine (svindexC B off K cap bs HB.out.2 hK _ H.out).mono ?_
  rintro e w1 ⟨r, h1, h2, h3, rfl, hb⟩
  rw [HB.out.1] at h3
  subst h3
  have HW := Lib.hid hb
  clear hb
  go_wp2_with fail
  go_ret
  exact ⟨rfl, HW.out⟩

set_option maxRecDepth 100000 in
set_option maxHeartbeats 3200000 in
theorem foldedPC (B off K cap : Nat) (bs : List Bkt) (hk : bs.length = K) (h0 : 1 ≤ K) (hK : K ≤ 1000) (hcap : K ≤ cap) (w : World) (h : RowC w B off bs) :
    Calls Try.prog 102 #[.slice (some ⟨B, off, none⟩) K cap, .func (.func 103) #[] #[]] w (GivesPk (chainF bs (bs.length - 1)) w) := by
  have KR := Lib.hid (Pq4.new w 0 0 0 0 25)
  have hB := below_box (w := w) (.cells #[.int .i64 0, .int .i64 0, .int .i64 0, .int .i64 0] 25)
  have HL := Lib.hid (h.under hB)
  have HB := Lib.hid hB
  have HK := Lib.hid hk
  obtain ⟨b0, hb0⟩ : ∃ b, bs[0]? = some b := ⟨_, List.getElem?_eq_getElem (by omega)⟩
  have HBW := Lib.hid (show B < w.heap.size from lt_of_cell (h.at0 hb0).1)
  clear h hB
  obtain ⟨ans, hans⟩ : ∃ r, chainF bs (bs.length - 1) = r := ⟨_, rfl⟩
  rw [hans]
  have HZ := Lib.hid hans.symm
  clear hans
  obtain ⟨W, hW⟩ : ∃ W, w.alloc (.cells #[.int .i64 0, .int .i64 0, .int .i64 0, .int .i64 0] 25) = W := ⟨_, rfl⟩
  have HWS := Lib.hid (show W.heap.size = w.heap.size + 1 by rw [← hW]; simp)
  rw [hW] at KR HL HB
  have HW := Lib.hid hW
  have HB0 := Lib.hid hb0
  clear hW hb0
  obtain ⟨r0, hr0⟩ : ∃ r : Pk, r = ⟨b0.bn, b0.bd, b0.rn, b0.rd, 0⟩ := ⟨_, rfl⟩
  have HR0 := Lib.hid (show chainF bs 0 = ⟨b0.bn, b0.bd, b0.rn, b0.rd, 0⟩ by unfold chainF; rw [getD_some HB0.out])
  clear r0 hr0
  obtain ⟨M, hM⟩ : ∃ M : Nat, K = M + 1 := ⟨K - 1, by omega⟩
  have hMi : (K : Int) - 1 = (M : Int) := by omega
  have hMn : K - 1 = M := by omega
  have hM2 : 1 ≤ K := h0
  have HMM := Lib.hid hM
  clear hM hk
  obtain ⟨w3, hw⟩ : ∃ w', W.alloc (.cells #[.int .i64 b0.bn, .int .i64 b0.bd, .int .i64 b0.rn, .int .i64 b0.rd] 25) = w' := ⟨_, rfl⟩
  have hz : Below W.heap.size W w3 := by rw [← hw]; exact below_box _
  have S0 := Lib.hid (show Fp w w3 W.heap.size ⟨b0.bn, b0.bd, b0.rn, b0.rd, 0⟩ from ⟨KR.out.below hz, by rw [← hw]; exact Pq4.new _ _ _ _ _ _, KR.out.lt, HB.out.trans (hz.mono HB.out.size)⟩)
  have HL3 := Lib.hid (HL.out.under hz)
  have HBL0 := Lib.hid (show B ≠ W.heap.size from by have := HBW.out; have := HWS.out; omega)
  have HW3 := Lib.hid hw
  obtain ⟨c0, c1, c2, c3⟩ := HL.out.at0 HB0.out
  simp only [Nat.zero_mul, Nat.add_zero] at c0 c1 c2 c3
  clear hw hz
  go_enter Try.func102, Try.ntmps102
  go_upto_region 1 with fail
  rw [HW.out]
  go_upto_region 2 with fail
  try rw [HW3.out]
  obtain ⟨L, hL⟩ : ∃ L, W.heap.size = L := ⟨_, rfl⟩
  rw [hL] at S0 HBL0
  have HBL := HBL0
  try rw [hL]
  clear HW HW3 hL c0 c1 c2 c3 HBL0
  have HR0' := HR0
  by_cases hcp : cap = 1
  · subst hcp
    obtain rfl : M = 0 := by omega
    go_wp2_with fail
    go_loopw [16, 7] (fun s16 s7 wx => ∃ (k : Nat) (r : Pk), s16 = .int .i64 k ∧ s7 = .int .i64 r.c ∧ r.c = 0 ∧ k ≤ 0 ∧ Hid (chainF bs k = r) ∧ Hid (Fp w wx L r) ∧ Hid (RowC wx B off bs)) (fun s16 _ _ => 0 - (intOf s16).toNat)
    case atStart => exact ⟨0, ⟨b0.bn, b0.bd, b0.rn, b0.rd, 0⟩, by go_num, rfl, rfl, Nat.zero_le _, HR0, S0, HL3⟩
    case round =>
      obtain ⟨k, r, rfl, rfl, hc0, hk, HF, HS, HB⟩ := hrel
      obtain ⟨wk, rfl⟩ : ∃ u : World, u = wr := ⟨_, rfl⟩
      by_cases hlt : k < 0
      · exact absurd hlt (by omega)
      · obtain rfl : k = 0 := by omega
        have HZ2 := Lib.hid (show ans = r by rw [HZ.out, ← HF.out, show bs.length - 1 = 0 from by have := HK.out; have := HMM.out; omega])
        have HP := Lib.hid HS.out.post
        obtain ⟨c0, c1, c2, c3, _, _, _, _⟩ := HS.out.box
        obtain ⟨e0, e1, e2, e3, e4, e5, e6, e7⟩ := HS.out.res
        have hl1 := HS.out.lt
        have hl2 : ¬ w.heap.size = L := by omega
        have hl3 : ¬ L = w.heap.size := by omega
        go_wp2_with fail
        refine bodyPost_ret (v := .tuple #[bucketV r.rn r.rd r.ln r.ld, .int .i64 r.c]) (by simp [results, Try.results102, go_sem, e0, e1, e2, e3, e4, e5, e6, e7]) rfl ?_
        rw [HZ2.out]; exact HP.out
  · have hcp2 : ¬ cap - 1 = 0 := by omega
    go_wp2_with fail
    go_loopw [16, 7] (fun s16 s7 wx => ∃ (k : Nat) (r : Pk), s16 = .int .i64 k ∧ s7 = .int .i64 r.c ∧ r.c = 0 ∧ k ≤ M ∧ Hid (chainF bs k = r) ∧ Hid (Fp w wx L r) ∧ Hid (RowC wx B off bs)) (fun s16 _ _ => M - (intOf s16).toNat)
    case atStart => exact ⟨0, ⟨b0.bn, b0.bd, b0.rn, b0.rd, 0⟩, by go_num, rfl, rfl, Nat.zero_le _, HR0, S0, HL3⟩
    case round =>
      obtain ⟨k, r, rfl, rfl, hc0, hk, HF, HS, HB⟩ := hrel
      obtain ⟨wk, rfl⟩ : ∃ u : World, u = wr := ⟨_, rfl⟩
      by_cases hlt : k < M
      · obtain ⟨b, hb⟩ : ∃ b, bs[k + 1]? = some b := ⟨_, List.getElem?_eq_getElem (by have := HK.out; have := HMM.out; omega)⟩
        obtain ⟨t, ht⟩ : ∃ t, linkA ⟨r.rn, r.rd, r.ln, r.ld, 0⟩ b = t := ⟨_, rfl⟩
        have HFN := Lib.hid (show chainF bs (k + 1) = t by
          have h := chainF_c0 (bs := bs) (k := k) (by rw [HF.out]; exact hc0) hb
          rw [HF.out, ht] at h; exact h)
        have HCA := Lib.hid (show ∀ u, Calls Try.prog 103 #[bucketV r.rn r.rd r.ln r.ld, bucketV b.bn b.bd b.rn b.rd] u (GivesPk t u) from fun u => by rw [← ht]; exact chained_any ⟨r.rn, r.rd, r.ln, r.ld⟩ b u)
        obtain ⟨c0, c1, c2, c3⟩ := HB.out.at0 hb
        rw [show off + (k + 1) * 4 = off + 4 + k * 4 by omega] at c0 c1 c2 c3
        have hki : (k : Int) < (M : Int) := by omega
        obtain ⟨w2, hw⟩ : ∃ w', wk.alloc (.cells #[.int .i64 b.bn, .int .i64 b.bd, .int .i64 b.rn, .int .i64 b.rd] 25) = w' := ⟨_, rfl⟩
        have hz : Below wk.heap.size wk w2 := by rw [← hw]; exact below_box _
        have S2 := Lib.hid (HS.out.call hz)
        have XB := Lib.hid (show Bk4 w2 wk.heap.size b.bn b.bd b.rn b.rd by rw [← hw]; exact Bk4.new _ _ _ _ _ _)
        have HB2 := Lib.hid (HB.out.under hz)
        have HW := Lib.hid hw
        have HC0 := Lib.hid hc0
        clear hb hw hz HB HS ht hc0
        go_upto_region 5 with fail
        try rw [HW.out]
        obtain ⟨G, hG⟩ : ∃ B, wk.heap.size = B := ⟨_, rfl⟩
        rw [hG] at XB
        try rw [hG]
        clear HW hG c0 c1 c2 c3
        obtain ⟨c0, c1, c2, c3, _, _, _, _⟩ := S2.out.box
        obtain ⟨d0, d1, d2, d3⟩ := XB.out
        go_wp2_with fail
        clear c0 c1 c2 c3 d0 d1 d2 d3
        refine (HCA.out _).mono ?_
        rintro e w3 ⟨rfl, hb⟩
        have S3 := Lib.hid (S2.out.call hb)
        obtain ⟨w4, hw⟩ : ∃ w', ((((w3.setCell ⟨L, 0, none⟩ (.int .i64 t.rn)).setCell ⟨L, 1, none⟩ (.int .i64 t.rd)).setCell ⟨L, 2, none⟩ (.int .i64 t.ln)).setCell ⟨L, 3, none⟩ (.int .i64 t.ld)) = w' := ⟨_, rfl⟩
        have S4 := Lib.hid (show Fp w w4 L t by rw [← hw]; exact S3.out.lay)
        have HB4 := Lib.hid (show RowC w4 B off bs by rw [← hw]; exact (HB2.out.under hb).other4 HBL.out _ _ _ _)
        obtain ⟨c0, c1, c2, c3, c4, c5, c6, c7⟩ := S3.out.box
        have HW := Lib.hid hw
        clear hb hw
        go_upto_region 6 with fail
        try rw [HW.out]
        clear HW c0 c1 c2 c3 c4 c5 c6 c7
        by_cases htc : t.c = 0
        · have ec : (t.c != 0) = false := by simpa using htc
          have ec2 : (t.c == 0) = true := by simpa using htc
          have HTC := Lib.hid htc
          clear htc
          go_wp2_with fail
          go_roundw
          case rel => exact ⟨k + 1, t, by go_num, rfl, HTC.out, by omega, HFN, S4, HB4⟩
          case measure => simp [intOf]; omega
        · have ec : (t.c != 0) = true := by simpa using htc
          have ec2 : (t.c == 0) = false := by simpa using htc
          have HZ2 := Lib.hid (show ans = t by
            have h := chainF_stop (bs := bs) (k := k + 1) (by rw [HFN.out]; exact htc) (bs.length - 1 - (k + 1))
            rw [HFN.out, show k + 1 + (bs.length - 1 - (k + 1)) = bs.length - 1 by have := HK.out; have := HMM.out; omega] at h
            rw [HZ.out, h])
          obtain ⟨r, hr⟩ : ∃ r, t = r := ⟨_, rfl⟩
          rw [hr] at HZ2 S4 ec ec2 ⊢
          have HS := S4
          clear htc
          have HP := Lib.hid HS.out.post
          obtain ⟨c0, c1, c2, c3, _, _, _, _⟩ := HS.out.box
          obtain ⟨e0, e1, e2, e3, e4, e5, e6, e7⟩ := HS.out.res
          have hl1 := HS.out.lt
          have hl2 : ¬ w.heap.size = L := by omega
          have hl3 : ¬ L = w.heap.size := by omega
          go_wp2_with fail
          refine bodyPost_ret (v := .tuple #[bucketV r.rn r.rd r.ln r.ld, .int .i64 r.c]) (by simp [results, Try.results102, go_sem, e0, e1, e2, e3, e4, e5, e6, e7]) rfl ?_
          rw [HZ2.out]; exact HP.out

      · obtain rfl : k = M := by omega
        have HZ2 := Lib.hid (show ans = r by rw [HZ.out, ← HF.out, show bs.length - 1 = k from by have := HK.out; have := HMM.out; omega])
        have HP := Lib.hid HS.out.post
        obtain ⟨c0, c1, c2, c3, _, _, _, _⟩ := HS.out.box
        obtain ⟨e0, e1, e2, e3, e4, e5, e6, e7⟩ := HS.out.res
        have hl1 := HS.out.lt
        have hl2 : ¬ w.heap.size = L := by omega
        have hl3 : ¬ L = w.heap.size := by omega
        go_wp2_with fail
        refine bodyPost_ret (v := .tuple #[bucketV r.rn r.rd r.ln r.ld, .int .i64 r.c]) (by simp [results, Try.results102, go_sem, e0, e1, e2, e3, e4, e5, e6, e7]) rfl ?_
        rw [HZ2.out]; exact HP.out

set_option maxRecDepth 100000 in
set_option maxHeartbeats 1600000 in
theorem chainC (B off K cap : Nat) (bs : List Bkt) (hk : bs.length = K) (hK : K ≤ 1000) (hcap : K ≤ cap) (w : World) (h : RowC w B off bs) :
    Calls Try.prog 26 #[.slice (some ⟨B, off, none⟩) K cap] w (GivesPk (chainA bs) w) := by
  have KR := Lib.hid (Pq4.new w 0 0 0 0 25)
  have hB := below_box (w := w) (.cells #[.int .i64 0, .int .i64 0, .int .i64 0, .int .i64 0] 25)
  have HL := Lib.hid (h.under hB)
  have HB := Lib.hid hB
  have HK := Lib.hid hk
  clear h hB
  obtain ⟨W, hW⟩ : ∃ W, w.alloc (.cells #[.int .i64 0, .int .i64 0, .int .i64 0, .int .i64 0] 25) = W := ⟨_, rfl⟩
  rw [hW] at KR HL HB
  have HW := Lib.hid hW
  clear hW
  by_cases h0 : K = 0
  · subst h0
    rw [chainA_zero hk]
    clear hk
    go_enter Try.func26, Try.ntmps26
    go_upto_region 1 with fail
    rw [HW.out]
    obtain ⟨e0, e1, e2, e3, e4, e5, e6, e7⟩ := KR.out
    go_wp2_with fail
    exact bodyPost_ret (v := .tuple #[bucketV 0 0 0 0, .int .i64 2]) (by simp [results, Try.results26, go_sem, e0, e1, e2, e3, e4, e5, e6, e7]) rfl ⟨rfl, svbelow4 HB.out (Nat.le_refl _) _ _ _ _⟩
  have h0i : ¬ (K : Int) = 0 := by omega
  have h0b : ((K : Int) == 0) = false := by simpa using h0
  cases hbad : badL bs with
  | true =>
    rw [chainA_bad hbad]
    have HBD := Lib.hid hbad
    clear hbad hk
    go_enter Try.func26, Try.ntmps26
    go_upto_region 1 with fail
    rw [HW.out]
    go_wp2_with fail
    refine (svcontainsC B off K cap bs HK.out hK true HBD.out _ HL.out).mono ?_
    rintro e u1 ⟨rfl, hb⟩
    have HB1 := Lib.hid (HB.out.trans (hb.mono HB.out.size))
    obtain ⟨e0, e1, e2, e3, e4, e5, e6, e7⟩ := KR.out.below hb
    clear hb
    go_wp2_with fail
    exact bodyPost_ret (v := .tuple #[bucketV 0 0 0 0, .int .i64 2]) (by simp [results, Try.results26, go_sem, e0, e1, e2, e3, e4, e5, e6, e7]) rfl ⟨rfl, svbelow4 HB1.out (Nat.le_refl _) _ _ _ _⟩
  | false =>
    rw [chainA_fold (by omega) hbad]
    have HBD := Lib.hid hbad
    obtain ⟨ans, hans⟩ : ∃ r, chainF bs (bs.length - 1) = r := ⟨_, rfl⟩
    have HFO := Lib.hid (show ∀ u, RowC u B off bs → Calls Try.prog 102 #[.slice (some ⟨B, off, none⟩) K cap, .func (.func 103) #[] #[]] u (GivesPk ans u) from fun u hu => by rw [← hans]; exact foldedPC B off K cap bs hk (by omega) hK hcap u hu)
    rw [hans]
    clear hbad hk hans
    go_enter Try.func26, Try.ntmps26
    go_upto_region 1 with fail
    rw [HW.out]
    go_wp2_with fail
    refine (svcontainsC B off K cap bs HK.out hK false HBD.out _ HL.out).mono ?_
    rintro e u1 ⟨rfl, hb⟩
    have HB1 := Lib.hid (HB.out.trans (hb.mono HB.out.size))
    have KR1 := Lib.hid (KR.out.below hb)
    have HL1 := Lib.hid (HL.out.under hb)
    clear hb
    go_wp2_with fail
    refine (HFO.out _ HL1.out).mono ?_
    rintro e u2 ⟨rfl, hb⟩
    have HB2 := Lib.hid (HB1.out.trans (hb.mono HB1.out.size))
    obtain ⟨e0, e1, e2, e3, e4, e5, e6, e7⟩ := KR1.out.below hb
    clear hb
    go_wp2_with fail
    exact bodyPost_ret (v := .tuple #[bucketV ans.rn ans.rd ans.ln ans.ld, .int .i64 ans.c]) (by simp [results, Try.results26, go_sem, e0, e1, e2, e3, e4, e5, e6, e7]) rfl ⟨rfl, svbelow4 HB2.out (Nat.le_refl _) _ _ _ _⟩

end Go.Proofs.Ytjipmkgnndldpaa
