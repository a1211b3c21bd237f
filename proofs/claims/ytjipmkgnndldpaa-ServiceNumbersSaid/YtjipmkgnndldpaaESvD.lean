/- Contracts of package service: folded over paces, Chain. By the verifier's side. -/
import Derived.Test.YtjipmkgnndldpaaESvC
import Derived.Test.YtjipmkgnndldpaaEBkLBkNBkO
namespace Go.Proofs.Ytjipmkgnndldpaa
open Go.RowKit
set_option linter.unusedSimpArgs false
set_option linter.unusedVariables false

/-- The pace so far in box L; the function's result is still empty. -/
structure Fp (w wx : World) (L : Nat) (r : Pk) : Prop where
  res : Pq4 wx w.heap.size 0 0 0 0
  box : Pq4 wx L r.rn r.rd r.ln r.ld
  lt : w.heap.size < L
  below : Below w.heap.size w wx
theorem Fp.call {w u v : World} {L : Nat} {r : Pk} (h : Fp w u L r) (hb : Below u.heap.size u v) : Fp w v L r :=
  ⟨h.res.below hb, h.box.below hb, h.lt, h.below.trans (hb.mono h.below.size)⟩
theorem Fp.lay {w u : World} {L : Nat} {r t : Pk} (h : Fp w u L r) :
    Fp w ((((u.setCell ⟨L, 0, none⟩ (.int .i64 t.rn)).setCell ⟨L, 1, none⟩ (.int .i64 t.rd)).setCell ⟨L, 2, none⟩ (.int .i64 t.ln)).setCell ⟨L, 3, none⟩ (.int .i64 t.ld)) L t := by
  have hl := h.lt
  exact ⟨(((h.res.other (by omega) _ _).other (by omega) _ _).other (by omega) _ _).other (by omega) _ _, h.box.set _ _ _ _, hl, svbelow4 h.below (by omega) _ _ _ _⟩
theorem Fp.post {w u : World} {L : Nat} {r : Pk} (h : Fp w u L r) :
    GivesPk r w (.returned (.tuple #[bucketV r.rn r.rd r.ln r.ld, .int .i64 r.c])) ((((u.setCell ⟨w.heap.size, 0, none⟩ (.int .i64 r.rn)).setCell ⟨w.heap.size, 1, none⟩ (.int .i64 r.rd)).setCell ⟨w.heap.size, 2, none⟩ (.int .i64 r.ln)).setCell ⟨w.heap.size, 3, none⟩ (.int .i64 r.ld)) :=
  ⟨rfl, svbelow4 h.below (Nat.le_refl _) _ _ _ _⟩
theorem RowB.other4 {u : World} {B off L : Nat} {bs : List Bkt} (h : RowB u B off bs) (hq : B ≠ L) (y0 y1 y2 y3 : Value) : RowB ((((u.setCell ⟨L, 0, none⟩ y0).setCell ⟨L, 1, none⟩ y1).setCell ⟨L, 2, none⟩ y2).setCell ⟨L, 3, none⟩ y3) B off bs :=
  (((h.other hq _ _).other hq _ _).other hq _ _).other hq _ _
theorem chainF_c0 {bs : List Bkt} {k : Nat} (h : (chainF bs k).c = 0) {b : Bkt} (hb : bs[k + 1]? = some b) : chainF bs (k + 1) = linkA ⟨(chainF bs k).rn, (chainF bs k).rd, (chainF bs k).ln, (chainF bs k).ld, 0⟩ b := by
  show stepA (chainF bs k) (bs.getD (k + 1) default) = _
  unfold stepA
  rw [if_pos h, getD_some hb]
  generalize chainF bs k = r at h
  obtain ⟨a1, a2, a3, a4, a5⟩ := r
  have h2 : a5 = 0 := h
  subst h2
  rfl

set_option maxRecDepth 100000 in
set_option maxHeartbeats 3200000 in
theorem foldedP_any (B K cap : Nat) (bs : List Bkt) (hk : bs.length = K) (h0 : 1 ≤ K) (hK : K ≤ 1000) (hcap : K ≤ cap) (w : World) (h : RowB w B 0 bs) :
    Calls Try.prog 102 #[.slice (some ⟨B, 0, none⟩) K cap, .func (.func 103) #[] #[]] w (GivesPk (chainF bs (bs.length - 1)) w) := by
  have KR := Lib.hid (Pq4.new w 0 0 0 0 25)
  have hB := below_box (w := w) (.cells #[.int .i64 0, .int .i64 0, .int .i64 0, .int .i64 0] 25)
  have HL := Lib.hid (h.under hB)
  have HB := Lib.hid hB
  have HK := Lib.hid hk
  obtain ⟨b0, hb0⟩ : ∃ b, bs[0]? = some b := ⟨_, List.getElem?_eq_getElem (by omega)⟩
  have HBW := Lib.hid (show B < w.heap.size from lt_of_cell (h.at0 hb0).1)
  clear h hB
  obtain ⟨ans, hans⟩ : ∃ r, chainF bs (bs.length - 1) = r := ⟨_, rfl⟩
  rw [hans]
  have HZ := Lib.hid hans.symm
  clear hans
  obtain ⟨W, hW⟩ : ∃ W, w.alloc (.cells #[.int .i64 0, .int .i64 0, .int .i64 0, .int .i64 0] 25) = W := ⟨_, rfl⟩
  have HWS := Lib.hid (show W.heap.size = w.heap.size + 1 by rw [← hW]; simp)
  rw [hW] at KR HL HB
  have HW := Lib.hid hW
  have HB0 := Lib.hid hb0
  clear hW hb0
  obtain ⟨r0, hr0⟩ : ∃ r : Pk, r = ⟨b0.bn, b0.bd, b0.rn, b0.rd, 0⟩ := ⟨_, rfl⟩
  have HR0 := Lib.hid (show chainF bs 0 = ⟨b0.bn, b0.bd, b0.rn, b0.rd, 0⟩ by unfold chainF; rw [getD_some HB0.out])
  clear r0 hr0
  obtain ⟨M, hM⟩ : ∃ M : Nat, K = M + 1 := ⟨K - 1, by omega⟩
  have hMi : (K : Int) - 1 = (M : Int) := by omega
  have hMn : K - 1 = M := by omega
  have hM2 : 1 ≤ K := h0
  have HMM := Lib.hid hM
  clear hM hk
  obtain ⟨w3, hw⟩ : ∃ w', W.alloc (.cells #[.int .i64 b0.bn, .int .i64 b0.bd, .int .i64 b0.rn, .int .i64 b0.rd] 25) = w' := ⟨_, rfl⟩
  have hz : Below W.heap.size W w3 := by rw [← hw]; exact below_box _
  have S0 := Lib.hid (show Fp w w3 W.heap.size ⟨b0.bn, b0.bd, b0.rn, b0.rd, 0⟩ from ⟨KR.out.below hz, by rw [← hw]; exact Pq4.new _ _ _ _ _ _, KR.out.lt, HB.out.trans (hz.mono HB.out.size)⟩)
  have HL3 := Lib.hid (HL.out.under hz)
  have HBL0 := Lib.hid (show B ≠ W.heap.size from by have := HBW.out; have := HWS.out; omega)
  have HW3 := Lib.hid hw
  obtain ⟨c0, c1, c2, c3⟩ := HL.out.at0 HB0.out
  rw [Nat.zero_mul] at c0 c1 c2 c3
  clear hw hz
  go_enter Try.func102, Try.ntmps102
  go_upto_region 1 with fail
  rw [HW.out]
  go_upto_region 2 with fail
  try rw [HW3.out]
  obtain ⟨L, hL⟩ : ∃ L, W.heap.size = L := ⟨_, rfl⟩
  rw [hL] at S0 HBL0
  have HBL := HBL0
  try rw [hL]
  clear HW HW3 hL c0 c1 c2 c3 HBL0
  have HR0' := HR0
  by_cases hcp : cap = 1
  · subst hcp
    obtain rfl : M = 0 := by omega
    go_wp2_with fail
    go_loopw [16, 7] (fun s16 s7 wx => ∃ (k : Nat) (r : Pk), s16 = .int .i64 k ∧ s7 = .int .i64 r.c ∧ r.c = 0 ∧ k ≤ 0 ∧ Hid (chainF bs k = r) ∧ Hid (Fp w wx L r) ∧ Hid (RowB wx B 0 bs)) (fun s16 _ _ => 0 - (intOf s16).toNat)
    case atStart => exact ⟨0, ⟨b0.bn, b0.bd, b0.rn, b0.rd, 0⟩, by go_num, rfl, rfl, Nat.zero_le _, HR0, S0, HL3⟩
    case round =>
      obtain ⟨k, r, rfl, rfl, hc0, hk, HF, HS, HB⟩ := hrel
      obtain ⟨wk, rfl⟩ : ∃ u : World, u = wr := ⟨_, rfl⟩
      by_cases hlt : k < 0
      · exact absurd hlt (by omega)
      · obtain rfl : k = 0 := by omega
        have HZ2 := Lib.hid (show ans = r by rw [HZ.out, ← HF.out, show bs.length - 1 = 0 from by have := HK.out; have := HMM.out; omega])
        have HP := Lib.hid HS.out.post
        obtain ⟨c0, c1, c2, c3, _, _, _, _⟩ := HS.out.box
        obtain ⟨e0, e1, e2, e3, e4, e5, e6, e7⟩ := HS.out.res
        have hl1 := HS.out.lt
        have hl2 : ¬ w.heap.size = L := by omega
        have hl3 : ¬ L = w.heap.size := by omega
        go_wp2_with fail
        refine bodyPost_ret (v := .tuple #[bucketV r.rn r.rd r.ln r.ld, .int .i64 r.c]) (by simp [results, Try.results102, go_sem, e0, e1, e2, e3, e4, e5, e6, e7]) rfl ?_
        rw [HZ2.out]; exact HP.out
  · have hcp2 : ¬ cap - 1 = 0 := by omega
    go_wp2_with fail
    go_loopw [16, 7] (fun s16 s7 wx => ∃ (k : Nat) (r : Pk), s16 = .int .i64 k ∧ s7 = .int .i64 r.c ∧ r.c = 0 ∧ k ≤ M ∧ Hid (chainF bs k = r) ∧ Hid (Fp w wx L r) ∧ Hid (RowB wx B 0 bs)) (fun s16 _ _ => M - (intOf s16).toNat)
    case atStart => exact ⟨0, ⟨b0.bn, b0.bd, b0.rn, b0.rd, 0⟩, by go_num, rfl, rfl, Nat.zero_le _, HR0, S0, HL3⟩
    case round =>
      obtain ⟨k, r, rfl, rfl, hc0, hk, HF, HS, HB⟩ := hrel
      obtain ⟨wk, rfl⟩ : ∃ u : World, u = wr := ⟨_, rfl⟩
      by_cases hlt : k < M
      · obtain ⟨b, hb⟩ : ∃ b, bs[k + 1]? = some b := ⟨_, List.getElem?_eq_getElem (by have := HK.out; have := HMM.out; omega)⟩
        obtain ⟨t, ht⟩ : ∃ t, linkA ⟨r.rn, r.rd, r.ln, r.ld, 0⟩ b = t := ⟨_, rfl⟩
        have HFN := Lib.hid (show chainF bs (k + 1) = t by
          have h := chainF_c0 (bs := bs) (k := k) (by rw [HF.out]; exact hc0) hb
          rw [HF.out, ht] at h; exact h)
        have HCA := Lib.hid (show ∀ u, Calls Try.prog 103 #[bucketV r.rn r.rd r.ln r.ld, bucketV b.bn b.bd b.rn b.rd] u (GivesPk t u) from fun u => by rw [← ht]; exact chained_any ⟨r.rn, r.rd, r.ln, r.ld⟩ b u)
        obtain ⟨c0, c1, c2, c3⟩ := HB.out (k + 1) b hb
        rw [show 0 + (k + 1) * 4 = 4 + k * 4 by omega] at c0 c1 c2 c3
        have hki : (k : Int) < (M : Int) := by omega
        obtain ⟨w2, hw⟩ : ∃ w', wk.alloc (.cells #[.int .i64 b.bn, .int .i64 b.bd, .int .i64 b.rn, .int .i64 b.rd] 25) = w' := ⟨_, rfl⟩
        have hz : Below wk.heap.size wk w2 := by rw [← hw]; exact below_box _
        have S2 := Lib.hid (HS.out.call hz)
        have XB := Lib.hid (show Bk4 w2 wk.heap.size b.bn b.bd b.rn b.rd by rw [← hw]; exact Bk4.new _ _ _ _ _ _)
        have HB2 := Lib.hid (HB.out.under hz)
        have HW := Lib.hid hw
        have HC0 := Lib.hid hc0
        clear hb hw hz HB HS ht hc0
        go_upto_region 5 with fail
        try rw [HW.out]
        obtain ⟨G, hG⟩ : ∃ B, wk.heap.size = B := ⟨_, rfl⟩
        rw [hG] at XB
        try rw [hG]
        clear HW hG c0 c1 c2 c3
        obtain ⟨c0, c1, c2, c3, _, _, _, _⟩ := S2.out.box
        obtain ⟨d0, d1, d2, d3⟩ := XB.out
        go_wp2_with fail
        clear c0 c1 c2 c3 d0 d1 d2 d3
        refine (HCA.out _).mono ?_
        rintro e w3 ⟨rfl, hb⟩
        have S3 := Lib.hid (S2.out.call hb)
        obtain ⟨w4, hw⟩ : ∃ w', ((((w3.setCell ⟨L, 0, none⟩ (.int .i64 t.rn)).setCell ⟨L, 1, none⟩ (.int .i64 t.rd)).setCell ⟨L, 2, none⟩ (.int .i64 t.ln)).setCell ⟨L, 3, none⟩ (.int .i64 t.ld)) = w' := ⟨_, rfl⟩
        have S4 := Lib.hid (show Fp w w4 L t by rw [← hw]; exact S3.out.lay)
        have HB4 := Lib.hid (show RowB w4 B 0 bs by rw [← hw]; exact (HB2.out.under hb).other4 HBL.out _ _ _ _)
        obtain ⟨c0, c1, c2, c3, c4, c5, c6, c7⟩ := S3.out.box
        have HW := Lib.hid hw
        clear hb hw
        go_upto_region 6 with fail
        try rw [HW.out]
        clear HW c0 c1 c2 c3 c4 c5 c6 c7
        by_cases htc : t.c = 0
        · have ec : (t.c != 0) = false := by simpa using htc
          have ec2 : (t.c == 0) = true := by simpa using htc
          have HTC := Lib.hid htc
          clear htc
          go_wp2_with fail
          go_roundw
          case rel => exact ⟨k + 1, t, by go_num, rfl, HTC.out, by omega, HFN, S4, HB4⟩
          case measure => simp [intOf]; omega
        · have ec : (t.c != 0) = true := by simpa using htc
          have ec2 : (t.c == 0) = false := by simpa using htc
          have HZ2 := Lib.hid (show ans = t by
            have h := chainF_stop (bs := bs) (k := k + 1) (by rw [HFN.out]; exact htc) (bs.length - 1 - (k + 1))
            rw [HFN.out, show k + 1 + (bs.length - 1 - (k + 1)) = bs.length - 1 by have := HK.out; have := HMM.out; omega] at h
            rw [HZ.out, h])
          obtain ⟨r, hr⟩ : ∃ r, t = r := ⟨_, rfl⟩
          rw [hr] at HZ2 S4 ec ec2 ⊢
          have HS := S4
          clear htc
          have HP := Lib.hid HS.out.post
          obtain ⟨c0, c1, c2, c3, _, _, _, _⟩ := HS.out.box
          obtain ⟨e0, e1, e2, e3, e4, e5, e6, e7⟩ := HS.out.res
          have hl1 := HS.out.lt
          have hl2 : ¬ w.heap.size = L := by omega
          have hl3 : ¬ L = w.heap.size := by omega
          go_wp2_with fail
          refine bodyPost_ret (v := .tuple #[bucketV r.rn r.rd r.ln r.ld, .int .i64 r.c]) (by simp [results, Try.results102, go_sem, e0, e1, e2, e3, e4, e5, e6, e7]) rfl ?_
          rw [HZ2.out]; exact HP.out

      · obtain rfl : k = M := by omega
        have HZ2 := Lib.hid (show ans = r by rw [HZ.out, ← HF.out, show bs.length - 1 = k from by have := HK.out; have := HMM.out; omega])
        have HP := Lib.hid HS.out.post
        obtain ⟨c0, c1, c2, c3, _, _, _, _⟩ := HS.out.box
        obtain ⟨e0, e1, e2, e3, e4, e5, e6, e7⟩ := HS.out.res
        have hl1 := HS.out.lt
        have hl2 : ¬ w.heap.size = L := by omega
        have hl3 : ¬ L = w.heap.size := by omega
        go_wp2_with fail
        refine bodyPost_ret (v := .tuple #[bucketV r.rn r.rd r.ln r.ld, .int .i64 r.c]) (by simp [results, Try.results102, go_sem, e0, e1, e2, e3, e4, e5, e6, e7]) rfl ?_
        rw [HZ2.out]; exact HP.out

set_option maxRecDepth 100000 in
set_option maxHeartbeats 1600000 in
theorem chain_any (B K cap : Nat) (bs : List Bkt) (hk : bs.length = K) (hK : K ≤ 1000) (hcap : K ≤ cap) (w : World) (h : RowB w B 0 bs) :
    Calls Try.prog 26 #[.slice (some ⟨B, 0, none⟩) K cap] w (GivesPk (chainA bs) w) := by
  have KR := Lib.hid (Pq4.new w 0 0 0 0 25)
  have hB := below_box (w := w) (.cells #[.int .i64 0, .int .i64 0, .int .i64 0, .int .i64 0] 25)
  have HL := Lib.hid (h.under hB)
  have HB := Lib.hid hB
  have HK := Lib.hid hk
  clear h hB
  obtain ⟨W, hW⟩ : ∃ W, w.alloc (.cells #[.int .i64 0, .int .i64 0, .int .i64 0, .int .i64 0] 25) = W := ⟨_, rfl⟩
  rw [hW] at KR HL HB
  have HW := Lib.hid hW
  clear hW
  by_cases h0 : K = 0
  · subst h0
    rw [chainA_zero hk]
    clear hk
    go_enter Try.func26, Try.ntmps26
    go_upto_region 1 with fail
    rw [HW.out]
    obtain ⟨e0, e1, e2, e3, e4, e5, e6, e7⟩ := KR.out
    go_wp2_with fail
    exact bodyPost_ret (v := .tuple #[bucketV 0 0 0 0, .int .i64 2]) (by simp [results, Try.results26, go_sem, e0, e1, e2, e3, e4, e5, e6, e7]) rfl ⟨rfl, svbelow4 HB.out (Nat.le_refl _) _ _ _ _⟩
  have h0i : ¬ (K : Int) = 0 := by omega
  have h0b : ((K : Int) == 0) = false := by simpa using h0
  cases hbad : badL bs with
  | true =>
    rw [chainA_bad hbad]
    have HBD := Lib.hid hbad
    clear hbad hk
    go_enter Try.func26, Try.ntmps26
    go_upto_region 1 with fail
    rw [HW.out]
    go_wp2_with fail
    refine (svcontains_any B K cap bs HK.out hK true HBD.out _ HL.out).mono ?_
    rintro e u1 ⟨rfl, hb⟩
    have HB1 := Lib.hid (HB.out.trans (hb.mono HB.out.size))
    obtain ⟨e0, e1, e2, e3, e4, e5, e6, e7⟩ := KR.out.below hb
    clear hb
    go_wp2_with fail
    exact bodyPost_ret (v := .tuple #[bucketV 0 0 0 0, .int .i64 2]) (by simp [results, Try.results26, go_sem, e0, e1, e2, e3, e4, e5, e6, e7]) rfl ⟨rfl, svbelow4 HB1.out (Nat.le_refl _) _ _ _ _⟩
  | false =>
    rw [chainA_fold (by omega) hbad]
    have HBD := Lib.hid hbad
    obtain ⟨ans, hans⟩ : ∃ r, chainF bs (bs.length - 1) = r := ⟨_, rfl⟩
    have HFO := Lib.hid (show ∀ u, RowB u B 0 bs → Calls Try.prog 102 #[.slice (some ⟨B, 0, none⟩) K cap, .func (.func 103) #[] #[]] u (GivesPk ans u) from fun u hu => by rw [← hans]; exact foldedP_any B K cap bs hk (by omega) hK hcap u hu)
    rw [hans]
    clear hbad hk hans
    go_enter Try.func26, Try.ntmps26
    go_upto_region 1 with fail
    rw [HW.out]
    go_wp2_with fail
    refine (svcontains_any B K cap bs HK.out hK false HBD.out _ HL.out).mono ?_
    rintro e u1 ⟨rfl, hb⟩
    have HB1 := Lib.hid (HB.out.trans (hb.mono HB.out.size))
    have KR1 := Lib.hid (KR.out.below hb)
    have HL1 := Lib.hid (HL.out.under hb)
    clear hb
    go_wp2_with fail
    refine (HFO.out _ HL1.out).mono ?_
    rintro e u2 ⟨rfl, hb⟩
    have HB2 := Lib.hid (HB1.out.trans (hb.mono HB1.out.size))
    obtain ⟨e0, e1, e2, e3, e4, e5, e6, e7⟩ := KR1.out.below hb
    clear hb
    go_wp2_with fail
    exact bodyPost_ret (v := .tuple #[bucketV ans.rn ans.rd ans.ln ans.ld, .int .i64 ans.c]) (by simp [results, Try.results26, go_sem, e0, e1, e2, e3, e4, e5, e6, e7]) rfl ⟨rfl, svbelow4 HB2.out (Nat.le_refl _) _ _ _ _⟩

end Go.Proofs.Ytjipmkgnndldpaa
