/- Least of the program. By the verifier's side. -/
import Derived.Test.YtombgfpheiopgaaABkN
namespace Go.Proofs.Ytombgfpheiopgaa
open Go.RowKit
set_option linter.unusedSimpArgs false
set_option linter.unusedVariables false

theorem RowB.other {u : World} {B off q : Nat} {bs : List Bkt} (h : RowB u B off bs) (hq : B ≠ q) (i : Nat) (v : Value) : RowB (u.setCell ⟨q, i, none⟩ v) B off bs := fun j b hc => by
  have hb : (u.setCell ⟨q, i, none⟩ v).heap[B]? = u.heap[B]? := Below.heap_setCell _ _ _ _ hq
  have hs : ∀ o, (u.setCell ⟨q, i, none⟩ v).cell? ⟨B, o, none⟩ = u.cell? ⟨B, o, none⟩ := fun o => World.cell?_of_block (w := u) (a := ⟨B, o, none⟩) hb
  obtain ⟨h1, h2, h3, h4⟩ := h j b hc
  exact ⟨(hs _).trans h1, (hs _).trans h2, (hs _).trans h3, (hs _).trans h4⟩
/-- The result so far in box L; the function's result is still empty. -/
structure BLs (w wx : World) (L : Nat) (r : Rs) (a : Option Addr) (n cap : Nat) : Prop where
  res : Cur3 wx w.heap.size (.slice none 0 0) (.int .i64 0) (.int .i64 0)
  box : Cur3 wx L (.slice a n cap) (.int .i64 r.p) (.int .i64 r.inc)
  row : RowZ wx a n cap r.zs
  far : ∀ x, a = some x → w.heap.size ≤ x.block ∧ (1 ≤ n → x.block ≠ L ∧ x.block ≠ w.heap.size)
  lt : w.heap.size < L
  below : Below w.heap.size w wx
theorem BLs.call {w u v : World} {L : Nat} {r : Rs} {a : Option Addr} {n cap : Nat} (h : BLs w u L r a n cap) (hb : Below u.heap.size u v) : BLs w v L r a n cap :=
  ⟨h.res.below hb, h.box.below hb, h.row.under hb, h.far, h.lt, h.below.trans (hb.mono h.below.size)⟩
theorem BLs.lay {w u : World} {L : Nat} {r t : Rs} {a a3 : Option Addr} {n cap n3 cap3 : Nat} (h : BLs w u L r a n cap) (hr : RowZ u a3 n3 cap3 t.zs) (hx : ∀ x, a3 = some x → w.heap.size ≤ x.block ∧ (1 ≤ n3 → x.block ≠ L ∧ x.block ≠ w.heap.size)) :
    BLs w (((u.setCell ⟨L, 0, none⟩ (.slice a3 n3 cap3)).setCell ⟨L, 1, none⟩ (.int .i64 t.p)).setCell ⟨L, 2, none⟩ (.int .i64 t.inc)) L t a3 n3 cap3 := by
  have hl := h.lt
  have hne : ∀ x, a3 = some x → 1 ≤ n3 → x.block ≠ L := fun x h1 hn => ((hx x h1).2 hn).1
  exact ⟨((h.res.other (by omega) _ _).other (by omega) _ _).other (by omega) _ _, h.box.set _ _ _, ((hr.store hne _ _).store hne _ _).store hne _ _, hx, hl, below_set3 h.below (by omega) _ _ _⟩
theorem BLs.post {w u : World} {L : Nat} {r : Rs} {a : Option Addr} {n cap : Nat} (h : BLs w u L r a n cap) :
    GivesCE r.zs r.p r.inc r.c w (.returned (.tuple #[curV a n cap r.p r.inc, .int .i64 r.c])) (((u.setCell ⟨w.heap.size, 0, none⟩ (.slice a n cap)).setCell ⟨w.heap.size, 1, none⟩ (.int .i64 r.p)).setCell ⟨w.heap.size, 2, none⟩ (.int .i64 r.inc)) := by
  have hne : ∀ x, a = some x → 1 ≤ n → x.block ≠ w.heap.size := fun x h1 hn => ((h.far x h1).2 hn).2
  exact ⟨a, n, cap, rfl, below_set3 h.below (Nat.le_refl _) _ _ _, ((h.row.store hne _ _).store hne _ _).store hne _ _, fun x h1 => (h.far x h1).1⟩

set_option maxRecDepth 100000 in
set_option maxHeartbeats 3200000 in
theorem least_any (B K cap : Nat) (bs : List Bkt) (hk : bs.length = K) (hK : K ≤ 1000) (hcap : K ≤ cap) (w : World) (h : RowB w B 0 bs) :
    Calls Try.prog 80 #[.slice (some ⟨B, 0, none⟩) K cap] w (GivesCE (bleastA bs).zs (bleastA bs).p (bleastA bs).inc (bleastA bs).c w) := by
  have KR := Lib.hid (Cur3.new w (.slice none 0 0) (.int .i64 0) (.int .i64 0) 24)
  have hB := below_box (w := w) (.cells #[.slice none 0 0, .int .i64 0, .int .i64 0] 24)
  have HL := Lib.hid (h.under hB)
  have HB := Lib.hid hB
  have HK := Lib.hid hk
  clear h hB
  obtain ⟨ans, hans⟩ : ∃ r, bleastA bs = r := ⟨_, rfl⟩
  rw [hans]
  have HA := Lib.hid hans
  clear hans
  obtain ⟨W, hW⟩ : ∃ W, w.alloc (.cells #[.slice none 0 0, .int .i64 0, .int .i64 0] 24) = W := ⟨_, rfl⟩
  rw [hW] at KR HL HB
  have HW := Lib.hid hW
  clear hW
  by_cases h0 : K = 0
  · subst h0
    have HZ := Lib.hid (HA.out.symm.trans (bleastA_zero hk))
    clear hk
    go_enter Try.func80, Try.ntmps80
    go_upto_region 1 with fail
    rw [HW.out]
    obtain ⟨e0, e1, e2, e3, e4, e5⟩ := KR.out
    go_wp2_with fail
    refine bodyPost_ret (v := .tuple #[curV none 0 0 0 0, .int .i64 2]) (by simp [results, Try.results80, go_sem, e0, e1, e2]) rfl ?_
    rw [HZ.out]; exact GivesCE.postBad (b := w.heap.size) HB.out (Nat.le_refl _) 2
  have h0i : ¬ (K : Int) = 0 := by omega
  have h0b : ((K : Int) == 0) = false := by simpa using h0
  by_cases h20 : 20 < K
  · have HZ := Lib.hid (HA.out.symm.trans (bleastA_long (by omega)))
    have h20i : (20 : Int) < (K : Int) := by omega
    clear hk
    go_enter Try.func80, Try.ntmps80
    go_upto_region 1 with fail
    rw [HW.out]
    obtain ⟨e0, e1, e2, e3, e4, e5⟩ := KR.out
    go_wp2_with fail
    refine bodyPost_ret (v := .tuple #[curV none 0 0 0 0, .int .i64 3]) (by simp [results, Try.results80, go_sem, e0, e1, e2]) rfl ?_
    rw [HZ.out]; exact GivesCE.postBad (b := w.heap.size) HB.out (Nat.le_refl _) 3
  have h20i : ¬ (20 : Int) < (K : Int) := by omega
  cases hbad : badL bs with
  | true =>
    have HZ := Lib.hid (HA.out.symm.trans (bleastA_bad (by omega) (by omega) hbad))
    have HBD := Lib.hid hbad
    clear hbad hk
    go_enter Try.func80, Try.ntmps80
    go_upto_region 1 with fail
    rw [HW.out]
    go_wp2_with fail
    refine (containsFaulty_any B K cap bs HK.out hK true HBD.out _ HL.out).mono ?_
    rintro e u1 ⟨rfl, hb⟩
    have HB1 := Lib.hid (HB.out.trans (hb.mono HB.out.size))
    obtain ⟨e0, e1, e2, e3, e4, e5⟩ := KR.out.below hb
    clear hb
    go_wp2_with fail
    refine bodyPost_ret (v := .tuple #[curV none 0 0 0 0, .int .i64 2]) (by simp [results, Try.results80, go_sem, e0, e1, e2]) rfl ?_
    rw [HZ.out]; exact GivesCE.postBad (b := w.heap.size) HB1.out (Nat.le_refl _) 2
  | false =>
    have HZ := Lib.hid (HA.out.symm.trans (bleastA_fold (by omega) (by omega) hbad))
    have HBD := Lib.hid hbad
    obtain ⟨b0, hb0⟩ : ∃ b, bs[0]? = some b := ⟨_, List.getElem?_eq_getElem (by omega)⟩
    have HB0 := Lib.hid hb0
    have HF0 := Lib.hid (show foldA bs 0 = pasA b0 by show pasA (bs.getD 0 default) = _; rw [List.getD, hb0]; rfl)
    clear hbad hb0
    obtain ⟨r0, hr0⟩ : ∃ r, foldA bs 0 = r := ⟨_, rfl⟩
    have HR0 := Lib.hid hr0
    have HP0 := Lib.hid (show ∀ u, Calls Try.prog 168 #[bucketV b0.bn b0.bd b0.rn b0.rd] u (GivesCE r0.zs r0.p r0.inc r0.c u) from fun u => by rw [← hr0, HF0.out]; exact passed_rs (badL_ok HBD.out HB0.out) u)
    clear hr0 hk
    go_enter Try.func80, Try.ntmps80
    go_upto_region 1 with fail
    rw [HW.out]
    clear HW
    go_wp2_with fail
    refine (containsFaulty_any B K cap bs HK.out hK false HBD.out _ HL.out).mono ?_
    rintro e u1 ⟨rfl, hb⟩
    have HL1 := Lib.hid (HL.out.under hb)
    have KR1 := Lib.hid (KR.out.below hb)
    have HB1 := Lib.hid (HB.out.trans (hb.mono HB.out.size))
    clear hb
    obtain ⟨c0, c1, c2, c3⟩ := HL1.out.at0 HB0.out
    rw [Nat.zero_mul] at c0 c1 c2 c3
    go_wp2_with fail
    clear c0 c1 c2 c3
    refine (HP0.out _).mono ?_
    rintro e u2 ⟨a1, n1, cap1, rfl, hb, hr1, hx1⟩
    obtain ⟨u3, hw⟩ : ∃ w', u2.alloc (.cells #[.slice a1 n1 cap1, .int .i64 r0.p, .int .i64 r0.inc] 24) = w' := ⟨_, rfl⟩
    have hz : Below u1.heap.size u1 u3 := by rw [← hw]; exact hb.trans ((below_box _).mono hb.size)
    have hl1 := KR1.out.lt
    have S0 := Lib.hid (show BLs w u3 u2.heap.size r0 a1 n1 cap1 from ⟨KR1.out.below hz, by rw [← hw]; exact Cur3.new _ _ _ _ _, by rw [← hw]; exact hr1.under (below_box _), fun x h1 => ⟨by have := hx1 x h1; omega, fun hn => ⟨by have := hr1.far x h1 hn; omega, by have := hx1 x h1; omega⟩⟩, by have := hb.size; omega, HB1.out.trans (hz.mono HB1.out.size)⟩)
    have HL3 := Lib.hid (HL1.out.under hz)
    have HSZ := Lib.hid hb.size
    have HW := Lib.hid hw
    clear hb hr1 hx1 hw hz hl1 KR1 HB1
    go_upto_region 8 with fail
    try rw [HW.out]
    have hBL : B ≠ u2.heap.size := by have := lt_of_cell (HL1.out.at0 HB0.out).1; have h2 : B < u1.heap.size := this; have h3 := HSZ.out; omega
    obtain ⟨L, hLe⟩ : ∃ B, u2.heap.size = B := ⟨_, rfl⟩
    rw [hLe] at S0 hBL
    have HBL := Lib.hid hBL
    clear hBL
    try rw [hLe]
    clear HW hLe
    obtain ⟨M, hM⟩ : ∃ M : Nat, K = M + 1 := ⟨K - 1, by omega⟩
    have hMi : (K : Int) - 1 = (M : Int) := by omega
    have hMn : K - 1 = M := by omega
    have hM2 : 1 ≤ K := by omega
    have HMM := Lib.hid hM
    clear hM
    by_cases hcp : cap = 1
    · subst hcp
      obtain rfl : M = 0 := by omega
      go_wp2_with fail
      go_loopw [29, 5] (fun s29 s5 wx => ∃ (k : Nat) (r : Rs) (a : Option Addr) (n cap : Nat), s29 = .int .i64 k ∧ s5 = .int .i64 r.c ∧ k ≤ 0 ∧ Hid (foldA bs k = r) ∧ Hid (BLs w wx L r a n cap) ∧ Hid (RowB wx B 0 bs)) (fun s29 _ _ => 0 - (intOf s29).toNat)
      case atStart => exact ⟨0, r0, a1, n1, cap1, by go_num, rfl, Nat.zero_le _, HR0, S0, HL3⟩
      case round =>
        obtain ⟨k, r, a, n, cap', rfl, rfl, hk, HF, HS, HB⟩ := hrel
        obtain ⟨wk, rfl⟩ : ∃ u : World, u = wr := ⟨_, rfl⟩
        by_cases hlt : k < 0
        · exact absurd hlt (by omega)

        · obtain rfl : k = 0 := by omega
          have HZ2 := Lib.hid (show ans = r by rw [HZ.out, ← HF.out, show bs.length - 1 = 0 from by have := HK.out; have := HMM.out; omega])
          have HP := Lib.hid HS.out.post
          obtain ⟨c0, c1, c2, c3, c4, c5⟩ := HS.out.box
          obtain ⟨e0, e1, e2, e3, e4, e5⟩ := HS.out.res
          have hl1 := HS.out.lt
          have hl2 : ¬ w.heap.size = L := by omega
          have hl3 : ¬ L = w.heap.size := by omega
          go_wp2_with fail
          refine bodyPost_ret (v := .tuple #[curV a n cap' r.p r.inc, .int .i64 r.c]) (by simp [results, Try.results80, go_sem, e0, e1, e2]) rfl ?_
          rw [HZ2.out]; exact HP.out
    · have hcp2 : ¬ cap - 1 = 0 := by omega
      go_wp2_with fail
      go_loopw [29, 5] (fun s29 s5 wx => ∃ (k : Nat) (r : Rs) (a : Option Addr) (n cap : Nat), s29 = .int .i64 k ∧ s5 = .int .i64 r.c ∧ k ≤ M ∧ Hid (foldA bs k = r) ∧ Hid (BLs w wx L r a n cap) ∧ Hid (RowB wx B 0 bs)) (fun s29 _ _ => M - (intOf s29).toNat)
      case atStart => exact ⟨0, r0, a1, n1, cap1, by go_num, rfl, Nat.zero_le _, HR0, S0, HL3⟩
      case round =>
        obtain ⟨k, r, a, n, cap', rfl, rfl, hk, HF, HS, HB⟩ := hrel
        obtain ⟨wk, rfl⟩ : ∃ u : World, u = wr := ⟨_, rfl⟩
        by_cases hlt : k < M
        · obtain ⟨b, hb⟩ : ∃ b, bs[k + 1]? = some b := ⟨_, List.getElem?_eq_getElem (by have := HK.out; have := HMM.out; omega)⟩
          have HBK := Lib.hid (badL_ok HBD.out hb)
          have HFN := Lib.hid (show foldA bs (k + 1) = nextA r b by show nextA (foldA bs k) (bs.getD (k + 1) default) = _; rw [HF.out, List.getD, hb]; rfl)
          have HRO := Lib.hid (show r.ok by rw [← HF.out]; exact foldA_ok bs k)
          obtain ⟨c0, c1, c2, c3⟩ := HB.out (k + 1) b hb
          rw [show 0 + (k + 1) * 4 = 4 + k * 4 by omega] at c0 c1 c2 c3
          have hki : (k : Int) < (M : Int) := by omega
          obtain ⟨w2, hw⟩ : ∃ w', wk.alloc (.cells #[.int .i64 b.bn, .int .i64 b.bd, .int .i64 b.rn, .int .i64 b.rd] 74) = w' := ⟨_, rfl⟩
          have hz : Below wk.heap.size wk w2 := by rw [← hw]; exact below_box _
          have S2 := Lib.hid (HS.out.call hz)
          have XB := Lib.hid (show Bk4 w2 wk.heap.size b.bn b.bd b.rn b.rd by rw [← hw]; exact Bk4.new _ _ _ _ _ _)
          have HB2 := Lib.hid (HB.out.under hz)
          have hlL : L < wk.heap.size := HS.out.box.lt
          have HW := Lib.hid hw
          clear hb hw hz HB HS
          go_upto_region 11 with fail
          try rw [HW.out]
          obtain ⟨G, hG⟩ : ∃ B, wk.heap.size = B := ⟨_, rfl⟩
          rw [hG] at XB hlL
          try rw [hG]
          clear HW hG c0 c1 c2 c3
          by_cases hc : r.c = 0
          · have ec : (r.c == 0) = true := by rw [hc]; rfl
            obtain ⟨t, ht⟩ : ∃ t, nextA r b = t := ⟨_, rfl⟩
            have HLO := Lib.hid (show ∀ (u : World), RowZ u a n cap' r.zs → Calls Try.prog 173 #[curV a n cap' r.p r.inc, bucketV b.bn b.bd b.rn b.rd] u (GivesCE t.zs t.p t.inc t.c u) from fun u hu => by rw [← ht]; exact lowered_any HRO.out hc HBK.out a n cap' u hu)
            have HFT := Lib.hid (HFN.out.trans ht)
            have hcb : r.c = 0 := hc
            clear ht hc
            obtain ⟨c0, c1, c2, c3, c4, c5⟩ := S2.out.box
            obtain ⟨d0, d1, d2, d3⟩ := XB.out
            go_wp2_with fail
            clear c0 c1 c2 c3 c4 c5 d0 d1 d2 d3
            refine (HLO.out _ S2.out.row).mono ?_
            rintro e w3 ⟨a3, n3, cap3, rfl, hb, hr3, hx3⟩
            have S3 := Lib.hid (S2.out.call hb)
            have hl2 := S2.out.box.lt
            have hl3 := S2.out.res.lt
            obtain ⟨w4, hw⟩ : ∃ w', (((w3.setCell ⟨L, 0, none⟩ (.slice a3 n3 cap3)).setCell ⟨L, 1, none⟩ (.int .i64 t.p)).setCell ⟨L, 2, none⟩ (.int .i64 t.inc)) = w' := ⟨_, rfl⟩
            have S4 := Lib.hid (show BLs w w4 L t a3 n3 cap3 by rw [← hw]; exact S3.out.lay hr3 (fun x h1 => ⟨by have := hx3 x h1; omega, fun _ => ⟨by have := hx3 x h1; omega, by have := hx3 x h1; omega⟩⟩))
            have HB4 := Lib.hid (show RowB w4 B 0 bs by rw [← hw]; exact (((HB2.out.under hb).other HBL.out _ _).other HBL.out _ _).other HBL.out _ _)
            obtain ⟨c0, c1, c2, c3, c4, c5⟩ := S3.out.box
            have HW := Lib.hid hw
            clear hb hr3 hx3 hw hl2 hl3
            go_upto_region 13 with fail
            try rw [HW.out]
            clear HW c0 c1 c2 c3 c4 c5
            go_wp2_with fail
            go_roundw
            case rel => exact ⟨k + 1, t, a3, n3, cap3, by go_num, rfl, by omega, HFT, S4, HB4⟩
            case measure => simp [intOf]; omega
          · have ec : (r.c == 0) = false := by simpa using hc
            have HFT := Lib.hid (show foldA bs (k + 1) = r from HFN.out.trans (nextA_stop hc))
            clear hc
            go_wp2_with fail
            go_roundw
            case rel => exact ⟨k + 1, r, a, n, cap', by go_num, rfl, by omega, HFT, S2, HB2⟩
            case measure => simp [intOf]; omega

        · obtain rfl : k = M := by omega
          have HZ2 := Lib.hid (show ans = r by rw [HZ.out, ← HF.out, show bs.length - 1 = k from by have := HK.out; have := HMM.out; omega])
          have HP := Lib.hid HS.out.post
          obtain ⟨c0, c1, c2, c3, c4, c5⟩ := HS.out.box
          obtain ⟨e0, e1, e2, e3, e4, e5⟩ := HS.out.res
          have hl1 := HS.out.lt
          have hl2 : ¬ w.heap.size = L := by omega
          have hl3 : ¬ L = w.heap.size := by omega
          go_wp2_with fail
          refine bodyPost_ret (v := .tuple #[curV a n cap' r.p r.inc, .int .i64 r.c]) (by simp [results, Try.results80, go_sem, e0, e1, e2]) rfl ?_
          rw [HZ2.out]; exact HP.out

end Go.Proofs.Ytombgfpheiopgaa
