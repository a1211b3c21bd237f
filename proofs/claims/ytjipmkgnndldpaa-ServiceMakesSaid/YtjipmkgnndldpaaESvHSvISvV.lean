/- Contracts of package service: folded over curves. By the verifier's side. -/
import Derived.Test.YtjipmkgnndldpaaESvLSvCSvD
import Derived.Test.YtjipmkgnndldpaaEPwSPwU
import Derived.Test.YtjipmkgnndldpaaEBkUBkC
namespace Go.Proofs.Ytjipmkgnndldpaa
open Go.RowKit
set_option linter.unusedSimpArgs false
set_option linter.unusedVariables false

theorem max_ce {a1 : Option Addr} {n1 cap1 : Nat} {z1 : List Int} {p1 : Nat} {i1 : Int} (g1 : Good z1 p1 i1) {a2 : Option Addr} {n2 cap2 : Nat} {z2 : List Int} {p2 : Nat} {i2 : Int} (g2 : Good z2 p2 i2) {zs : List Int} {p inc c : Int} (h : MaxIs z1 p1 i1 z2 p2 i2 zs p inc c) (w : World) (h1 : RowZ w a1 n1 cap1 z1) (h2 : RowZ w a2 n2 cap2 z2) :
    Calls Try.prog 49 #[curV a1 n1 cap1 p1 i1, curV a2 n2 cap2 p2 i2] w (GivesCE zs p inc c w) := by
  obtain ⟨L, hL, ⟨hl, hE⟩ | ⟨hl, rfl, rfl, rfl, rfl⟩⟩ := h
  · exact (max_ok a1 n1 cap1 z1 p1 i1 g1 a2 n2 cap2 z2 p2 i2 g2 L hL hl w h1 h2).mono fun _ _ k => hE.ce k
  · obtain ⟨y1, q1, j1, y2, q2, j2, hn1, hn2, hq⟩ := hL
    exact (max_bad 3 a1 n1 cap1 p1 i1 a2 n2 cap2 p2 i2 (fun W k1 k2 => pair_lim _ a1 n1 cap1 z1 p1 i1 g1 a2 n2 cap2 z2 p2 i2 g2 hn1 hn2 L hq hl W k1 k2) w h1 h2).mono fun _ _ k => k.ce
/-- Maximum of two answers that are curves. -/
theorem max_rs {r s : Rs} {p q : Nat} (hp : r.p = p) (hq : s.p = q) (g1 : Good r.zs p r.inc) (g2 : Good s.zs q s.inc) (a1 : Option Addr) (n1 cap1 : Nat) (a2 : Option Addr) (n2 cap2 : Nat) (w : World) (h1 : RowZ w a1 n1 cap1 r.zs) (h2 : RowZ w a2 n2 cap2 s.zs) :
    Calls Try.prog 49 #[curV a1 n1 cap1 r.p r.inc, curV a2 n2 cap2 s.p s.inc] w (GivesCE (maxA r s).zs (maxA r s).p (maxA r s).inc (maxA r s).c w) := by
  have h := maxA_is r s p q hp hq g1 g2
  rw [hp, hq]
  exact max_ce g1 g2 h w h1 h2

/-- A list of curves in a block. -/
def RowK (base : Nat) (u : World) (B : Nat) (rs : List Rs) : Prop :=
  ∀ (i : Nat) (r : Rs), rs[i]? = some r → ∃ (a : Option Addr) (n cap : Nat), u.cell? ⟨B, i * 3, none⟩ = some (.slice a n cap) ∧ u.cell? ⟨B, i * 3 + 1, none⟩ = some (.int .i64 r.p) ∧ u.cell? ⟨B, i * 3 + 2, none⟩ = some (.int .i64 r.inc) ∧ RowZ u a n cap r.zs ∧ ∀ x, a = some x → base ≤ x.block
theorem RowK.under {base : Nat} {u v : World} {B : Nat} {rs : List Rs} (h : RowK base u B rs) (hb : Below u.heap.size u v) : RowK base v B rs := fun i r hr => by
  obtain ⟨a, n, cap, h0, h1, h2, h3, h4⟩ := h i r hr
  exact ⟨a, n, cap, (hb.cell (lt_of_cell h0)).trans h0, (hb.cell (lt_of_cell h1)).trans h1, (hb.cell (lt_of_cell h2)).trans h2, h3.under hb, h4⟩
/-- A curve and an error are handed back; the curve's list does not lie below base. -/
def GivesCB (base : Nat) (zs : List Int) (p inc c : Int) (w : World) (e : Ending) (w' : World) : Prop :=
  ∃ (a : Option Addr) (n cap : Nat), e = .returned (.tuple #[curV a n cap p inc, .int .i64 c]) ∧ Below w.heap.size w w' ∧ RowZ w' a n cap zs ∧ ∀ x, a = some x → base ≤ x.block
/-- The result so far in box L; the function's result is still empty. -/
structure BLb (base : Nat) (w wx : World) (L : Nat) (r : Rs) (a : Option Addr) (n cap : Nat) : Prop where
  res : Cur3 wx w.heap.size (.slice none 0 0) (.int .i64 0) (.int .i64 0)
  box : Cur3 wx L (.slice a n cap) (.int .i64 r.p) (.int .i64 r.inc)
  row : RowZ wx a n cap r.zs
  far : ∀ x, a = some x → base ≤ x.block ∧ (1 ≤ n → x.block ≠ L ∧ x.block ≠ w.heap.size)
  lt : w.heap.size < L
  below : Below w.heap.size w wx
theorem BLb.call {base : Nat} {w u v : World} {L : Nat} {r : Rs} {a : Option Addr} {n cap : Nat} (h : BLb base w u L r a n cap) (hb : Below u.heap.size u v) : BLb base w v L r a n cap :=
  ⟨h.res.below hb, h.box.below hb, h.row.under hb, h.far, h.lt, h.below.trans (hb.mono h.below.size)⟩
theorem BLb.lay {base : Nat} {w u : World} {L : Nat} {r t : Rs} {a a3 : Option Addr} {n cap n3 cap3 : Nat} (h : BLb base w u L r a n cap) (hr : RowZ u a3 n3 cap3 t.zs) (hx : ∀ x, a3 = some x → base ≤ x.block ∧ (1 ≤ n3 → x.block ≠ L ∧ x.block ≠ w.heap.size)) :
    BLb base w (((u.setCell ⟨L, 0, none⟩ (.slice a3 n3 cap3)).setCell ⟨L, 1, none⟩ (.int .i64 t.p)).setCell ⟨L, 2, none⟩ (.int .i64 t.inc)) L t a3 n3 cap3 := by
  have hl := h.lt
  have hne : ∀ x, a3 = some x → 1 ≤ n3 → x.block ≠ L := fun x h1 hn => ((hx x h1).2 hn).1
  exact ⟨((h.res.other (by omega) _ _).other (by omega) _ _).other (by omega) _ _, h.box.set _ _ _, ((hr.store hne _ _).store hne _ _).store hne _ _, hx, hl, below_set3 h.below (by omega) _ _ _⟩
theorem BLb.post {base : Nat} {w u : World} {L : Nat} {r : Rs} {a : Option Addr} {n cap : Nat} (h : BLb base w u L r a n cap) :
    GivesCB base r.zs r.p r.inc r.c w (.returned (.tuple #[curV a n cap r.p r.inc, .int .i64 r.c])) (((u.setCell ⟨w.heap.size, 0, none⟩ (.slice a n cap)).setCell ⟨w.heap.size, 1, none⟩ (.int .i64 r.p)).setCell ⟨w.heap.size, 2, none⟩ (.int .i64 r.inc)) := by
  have hne : ∀ x, a = some x → 1 ≤ n → x.block ≠ w.heap.size := fun x h1 hn => ((h.far x h1).2 hn).2
  exact ⟨a, n, cap, rfl, below_set3 h.below (Nat.le_refl _) _ _ _, ((h.row.store hne _ _).store hne _ _).store hne _ _, fun x h1 => (h.far x h1).1⟩
theorem foldM_stop {rs : List Rs} {k : Nat} (h : ¬ (foldM rs k).c = 0) : ∀ j, foldM rs (k + (j + 1)) = Rs.lim
  | 0 => by
    show foldM rs (k + 1) = _
    unfold foldM
    rw [if_neg h]
  | j + 1 => by
    show foldM rs (k + (j + 1) + 1) = _
    unfold foldM
    rw [if_neg (by rw [foldM_stop h j]; decide)]
theorem foldM_late {rs : List Rs} (hA : AllC rs) {k N : Nat} (hk : k ≤ N) (hN : k < rs.length) (h : ¬ (foldM rs k).c = 0) : foldM rs N = foldM rs k := by
  rcases Nat.eq_or_lt_of_le hk with rfl | hlt
  · rfl
  · obtain ⟨j, rfl⟩ : ∃ j, N = k + (j + 1) := ⟨N - k - 1, by omega⟩
    rw [foldM_stop h j, (foldM_ok hA k hN).of h]

set_option maxRecDepth 100000 in
set_option maxHeartbeats 3200000 in
theorem foldedC_any (base B K cap : Nat) (rs : List Rs) (hA : AllC rs) (hk : rs.length = K) (h0 : 1 ≤ K) (hK : K ≤ 1000) (hcap : K ≤ cap) (w : World) (hbs : base ≤ w.heap.size) (h : RowK base w B rs) :
    Calls Try.prog 101 #[.slice (some ⟨B, 0, none⟩) K cap, .func (.func 49) #[] #[]] w (GivesCB base (foldM rs (rs.length - 1)).zs (foldM rs (rs.length - 1)).p (foldM rs (rs.length - 1)).inc (foldM rs (rs.length - 1)).c w) := by
  have KR := Lib.hid (Cur3.new w (.slice none 0 0) (.int .i64 0) (.int .i64 0) 38)
  have hB := below_box (w := w) (.cells #[.slice none 0 0, .int .i64 0, .int .i64 0] 38)
  have HL := Lib.hid (h.under hB)
  have HB := Lib.hid hB
  have HBS := Lib.hid (show base ≤ w.heap.size ∧ w.heap.size < (w.alloc (.cells #[.slice none 0 0, .int .i64 0, .int .i64 0] 38)).heap.size from ⟨hbs, by simp⟩)
  have HOLD := Lib.hid h
  have HK := Lib.hid hk
  have HALL := Lib.hid hA
  clear h hB hA hbs
  obtain ⟨ans, hans⟩ : ∃ r, foldM rs (rs.length - 1) = r := ⟨_, rfl⟩
  rw [hans]
  have HZ := Lib.hid hans.symm
  clear hans
  obtain ⟨W, hW⟩ : ∃ W, w.alloc (.cells #[.slice none 0 0, .int .i64 0, .int .i64 0] 38) = W := ⟨_, rfl⟩
  rw [hW] at KR HL HB HBS
  have HW := Lib.hid hW
  clear hW
  obtain ⟨r0, hr0⟩ : ∃ r, rs[0]? = some r := ⟨_, List.getElem?_eq_getElem (by omega)⟩
  have HC0 := Lib.hid (HALL.out _ _ hr0).1
  have HR0 := Lib.hid (show foldM rs 0 = r0 by unfold foldM; rw [List.getD_eq_getElem?_getD, hr0]; rfl)
  obtain ⟨a0, n0, cap0, c0', c1', c2', hrow', hfar⟩ := HOLD.out 0 r0 hr0
  have hbw : Below w.heap.size w W := HB.out
  have c0 := (hbw.cell (lt_of_cell c0')).trans c0'
  have c1 := (hbw.cell (lt_of_cell c1')).trans c1'
  have c2 := (hbw.cell (lt_of_cell c2')).trans c2'
  have hfr := hrow'.far
  have hrow := hrow'.under hbw
  clear c0' c1' c2'
  rw [Nat.zero_mul] at c0 c1 c2
  obtain ⟨M, hM⟩ : ∃ M : Nat, K = M + 1 := ⟨K - 1, by omega⟩
  have hMi : (K : Int) - 1 = (M : Int) := by omega
  have hMn : K - 1 = M := by omega
  have hM2 : 1 ≤ K := h0
  have HMM := Lib.hid hM
  clear hM hk hr0
  obtain ⟨w3, hw⟩ : ∃ w', W.alloc (.cells #[.slice a0 n0 cap0, .int .i64 r0.p, .int .i64 r0.inc] 38) = w' := ⟨_, rfl⟩
  have hz : Below W.heap.size W w3 := by rw [← hw]; exact below_box _
  have hkr := KR.out.lt
  have S0 := Lib.hid (show BLb base w w3 W.heap.size r0 a0 n0 cap0 from ⟨KR.out.below hz, by rw [← hw]; exact Cur3.new _ _ _ _ _, by rw [← hw]; exact hrow.under (below_box _), fun x h1 => ⟨hfar x h1, fun hn => ⟨by have := hfr x h1 hn; have := HBS.out; omega, by have := hfr x h1 hn; omega⟩⟩, hkr, HB.out.trans (hz.mono HB.out.size)⟩)
  have HBZ := Lib.hid hz
  have HW3 := Lib.hid hw
  clear hw hz hkr hbw hfr hfar hrow hrow'
  go_enter Try.func101, Try.ntmps101
  go_upto_region 1 with fail
  rw [HW.out]
  go_upto_region 2 with fail
  try rw [HW3.out]
  obtain ⟨L, hL⟩ : ∃ L, W.heap.size = L := ⟨_, rfl⟩
  have HLW := Lib.hid (show W.heap.size ≤ L by omega)
  rw [hL] at S0
  try rw [hL]
  clear HW HW3 hL c0 c1 c2
  by_cases hcp : cap = 1
  · subst hcp
    obtain rfl : M = 0 := by omega
    go_wp2_with fail
    go_loopw [16, 7] (fun s16 s7 wx => ∃ (k : Nat) (r : Rs) (a : Option Addr) (n cap : Nat), s16 = .int .i64 k ∧ s7 = .int .i64 r.c ∧ r.c = 0 ∧ k ≤ 0 ∧ Hid (foldM rs k = r) ∧ Hid (BLb base w wx L r a n cap) ∧ Hid (Below W.heap.size W wx)) (fun s16 _ _ => 0 - (intOf s16).toNat)
    case atStart => exact ⟨0, r0, a0, n0, cap0, by go_num, by rw [HC0.out], HC0.out, Nat.zero_le _, HR0, S0, HBZ⟩
    case round =>
      obtain ⟨k, r, a, n, cap', rfl, rfl, hc0, hk, HF, HS, HBX⟩ := hrel
      obtain ⟨wk, rfl⟩ : ∃ u : World, u = wr := ⟨_, rfl⟩
      by_cases hlt : k < 0
      · exact absurd hlt (by omega)
      · obtain rfl : k = 0 := by omega
        have HZ2 := Lib.hid (show ans = r by rw [HZ.out, ← HF.out, show rs.length - 1 = 0 from by have := HK.out; have := HMM.out; omega])
        have HP := Lib.hid HS.out.post
        obtain ⟨c0, c1, c2, c3, c4, c5⟩ := HS.out.box
        obtain ⟨e0, e1, e2, e3, e4, e5⟩ := HS.out.res
        have hl1 := HS.out.lt
        have hl2 : ¬ w.heap.size = L := by omega
        have hl3 : ¬ L = w.heap.size := by omega
        go_wp2_with fail
        refine bodyPost_ret (v := .tuple #[curV a n cap' r.p r.inc, .int .i64 r.c]) (by simp [results, Try.results101, go_sem, e0, e1, e2, e3, e4, e5]) rfl ?_
        rw [HZ2.out]; exact HP.out
  · have hcp2 : ¬ cap - 1 = 0 := by omega
    go_wp2_with fail
    go_loopw [16, 7] (fun s16 s7 wx => ∃ (k : Nat) (r : Rs) (a : Option Addr) (n cap : Nat), s16 = .int .i64 k ∧ s7 = .int .i64 r.c ∧ r.c = 0 ∧ k ≤ M ∧ Hid (foldM rs k = r) ∧ Hid (BLb base w wx L r a n cap) ∧ Hid (Below W.heap.size W wx)) (fun s16 _ _ => M - (intOf s16).toNat)
    case atStart => exact ⟨0, r0, a0, n0, cap0, by go_num, by rw [HC0.out], HC0.out, Nat.zero_le _, HR0, S0, HBZ⟩
    case round =>
      obtain ⟨k, r, a, n, cap', rfl, rfl, hc0, hk, HF, HS, HBX⟩ := hrel
      obtain ⟨wk, rfl⟩ : ∃ u : World, u = wr := ⟨_, rfl⟩
      by_cases hlt : k < M
      · obtain ⟨s, hs⟩ : ∃ s, rs[k + 1]? = some s := ⟨_, List.getElem?_eq_getElem (by have := HK.out; have := HMM.out; omega)⟩
        obtain ⟨hsc, q, hq, g2⟩ := HALL.out _ _ hs
        obtain ⟨t, ht⟩ : ∃ t, maxA r s = t := ⟨_, rfl⟩
        have HFN := Lib.hid (show foldM rs (k + 1) = t by
          unfold foldM
          rw [HF.out, if_pos hc0, List.getD_eq_getElem?_getD, hs, ← ht]; rfl)
        obtain ⟨p, hp, g1⟩ : ∃ p : Nat, r.p = p ∧ Good r.zs p r.inc := by
          have h := foldM_ok HALL.out k (by have := HK.out; have := HMM.out; omega)
          rw [HF.out] at h
          rcases h with ⟨_, p, hp, g⟩ | h
          · exact ⟨p, hp, g⟩
          · rw [h] at hc0; cases hc0
        have HCA := Lib.hid (show ∀ (a1 : Option Addr) (n1 cap1 : Nat) (a2 : Option Addr) (n2 cap2 : Nat) (u : World), RowZ u a1 n1 cap1 r.zs → RowZ u a2 n2 cap2 s.zs → Calls Try.prog 49 #[curV a1 n1 cap1 r.p r.inc, curV a2 n2 cap2 s.p s.inc] u (GivesCE t.zs t.p t.inc t.c u) from fun a1 n1 cap1 a2 n2 cap2 u h1 h2 => by rw [← ht]; exact max_rs hp hq g1 g2 a1 n1 cap1 a2 n2 cap2 u h1 h2)
        obtain ⟨b, m, mcap, c0, c1, c2, hrow, _⟩ := (HL.out.under HBX.out) (k + 1) s hs
        rw [show (k + 1) * 3 = 3 + k * 3 by omega] at c0 c1 c2
        have HRS := Lib.hid hrow
        have hki : (k : Int) < (M : Int) := by omega
        obtain ⟨w2, hw⟩ : ∃ w', wk.alloc (.cells #[.slice b m mcap, .int .i64 s.p, .int .i64 s.inc] 38) = w' := ⟨_, rfl⟩
        have hz : Below wk.heap.size wk w2 := by rw [← hw]; exact below_box _
        have S2 := Lib.hid (HS.out.call hz)
        have XB := Lib.hid (show Cur3 w2 wk.heap.size (.slice b m mcap) (.int .i64 s.p) (.int .i64 s.inc) by rw [← hw]; exact Cur3.new _ _ _ _ _)
        have RB := Lib.hid (HRS.out.under hz)
        have HB2 := Lib.hid (HBX.out.trans (hz.mono HBX.out.size))
        have HW := Lib.hid hw
        have HC1 := Lib.hid hc0
        clear hs hsc hq g2 hp g1 hrow hw hz HBX HS HRS ht hc0
        go_upto_region 5 with fail
        try rw [HW.out]
        obtain ⟨G, hG⟩ : ∃ B, wk.heap.size = B := ⟨_, rfl⟩
        rw [hG] at XB
        try rw [hG]
        clear HW hG c0 c1 c2
        obtain ⟨c0, c1, c2, c3, c4, c5⟩ := S2.out.box
        obtain ⟨d0, d1, d2, d3, d4, d5⟩ := XB.out
        go_wp2_with fail
        clear c0 c1 c2 c3 c4 c5 d0 d1 d2 d3 d4 d5
        refine (HCA.out _ _ _ _ _ _ _ S2.out.row RB.out).mono ?_
        rintro e w3 ⟨a3, n3, cap3, rfl, hb, hr3, hx3⟩
        have S3 := Lib.hid (S2.out.call hb)
        have hl2 := S2.out.box.lt
        have hl3 := S2.out.res.lt
        obtain ⟨w4, hw⟩ : ∃ w', (((w3.setCell ⟨L, 0, none⟩ (.slice a3 n3 cap3)).setCell ⟨L, 1, none⟩ (.int .i64 t.p)).setCell ⟨L, 2, none⟩ (.int .i64 t.inc)) = w' := ⟨_, rfl⟩
        have S4 := Lib.hid (show BLb base w w4 L t a3 n3 cap3 by rw [← hw]; exact S3.out.lay hr3 (fun x h1 => ⟨by have := hx3 x h1; have := HBS.out; omega, fun _ => ⟨by have := hx3 x h1; omega, by have := hx3 x h1; omega⟩⟩))
        have HB4 := Lib.hid (show Below W.heap.size W w4 by rw [← hw]; exact below_set3 (HB2.out.trans (hb.mono HB2.out.size)) HLW.out _ _ _)
        obtain ⟨c0, c1, c2, c3, c4, c5⟩ := S3.out.box
        have HW := Lib.hid hw
        clear hb hr3 hx3 hw hl2 hl3
        go_upto_region 6 with fail
        try rw [HW.out]
        clear HW c0 c1 c2 c3 c4 c5
        by_cases htc : t.c = 0
        · have ec : (t.c != 0) = false := by simpa using htc
          have ec2 : (t.c == 0) = true := by simpa using htc
          have HTC := Lib.hid htc
          clear htc
          go_wp2_with fail
          go_roundw
          case rel => exact ⟨k + 1, t, a3, n3, cap3, by go_num, rfl, HTC.out, by omega, HFN, S4, HB4⟩
          case measure => simp [intOf]; omega
        · have ec : (t.c != 0) = true := by simpa using htc
          have ec2 : (t.c == 0) = false := by simpa using htc
          have HZ2 := Lib.hid (show ans = t by
            have h := foldM_late HALL.out (k := k + 1) (N := rs.length - 1) (by have := HK.out; have := HMM.out; omega) (by have := HK.out; have := HMM.out; omega) (by rw [HFN.out]; exact htc)
            rw [HZ.out, h, HFN.out])
          obtain ⟨r, hr⟩ : ∃ r, t = r := ⟨_, rfl⟩
          obtain ⟨a, ha⟩ : ∃ a, a3 = a := ⟨_, rfl⟩
          obtain ⟨n, hn⟩ : ∃ n, n3 = n := ⟨_, rfl⟩
          obtain ⟨cap', hcp'⟩ : ∃ n, cap3 = n := ⟨_, rfl⟩
          rw [hr, ha, hn, hcp'] at S4
          rw [hr] at HZ2 ec ec2 ⊢
          have HS := S4
          clear htc
          have HP := Lib.hid HS.out.post
          obtain ⟨c0, c1, c2, c3, c4, c5⟩ := HS.out.box
          obtain ⟨e0, e1, e2, e3, e4, e5⟩ := HS.out.res
          have hl1 := HS.out.lt
          have hl2 : ¬ w.heap.size = L := by omega
          have hl3 : ¬ L = w.heap.size := by omega
          go_wp2_with fail
          refine bodyPost_ret (v := .tuple #[curV a n cap' r.p r.inc, .int .i64 r.c]) (by simp [results, Try.results101, go_sem, e0, e1, e2, e3, e4, e5]) rfl ?_
          rw [HZ2.out]; exact HP.out

      · obtain rfl : k = M := by omega
        have HZ2 := Lib.hid (show ans = r by rw [HZ.out, ← HF.out, show rs.length - 1 = k from by have := HK.out; have := HMM.out; omega])
        have HP := Lib.hid HS.out.post
        obtain ⟨c0, c1, c2, c3, c4, c5⟩ := HS.out.box
        obtain ⟨e0, e1, e2, e3, e4, e5⟩ := HS.out.res
        have hl1 := HS.out.lt
        have hl2 : ¬ w.heap.size = L := by omega
        have hl3 : ¬ L = w.heap.size := by omega
        go_wp2_with fail
        refine bodyPost_ret (v := .tuple #[curV a n cap' r.p r.inc, .int .i64 r.c]) (by simp [results, Try.results101, go_sem, e0, e1, e2, e3, e4, e5]) rfl ?_
        rw [HZ2.out]; exact HP.out

end Go.Proofs.Ytjipmkgnndldpaa

namespace Go.Proofs.Ytjipmkgnndldpaa
open Go.RowKit
set_option linter.unusedSimpArgs false
set_option linter.unusedVariables false

theorem sent_rs {b : Bkt} (hb : b.ok = true) (w : World) : Calls Try.prog 96 #[bucketV b.bn b.bd b.rn b.rd] w (GivesCE (pacA b).zs (pacA b).p (pacA b).inc (pacA b).c w) := by
  have h := pacA_is b
  unfold Bkt.ok at hb
  rw [Bool.and_eq_true] at hb
  obtain ⟨x1, x2, e1, e2, m1, m2, m3⟩ := okB_nat hb.1
  obtain ⟨x3, x4, e3, e4, m4, m5, m6⟩ := okB_nat hb.2
  have hk := hb.2
  unfold Rs.Pac at h
  rw [e1, e2, e3, e4] at h ⊢
  rw [e3, e4] at hk
  exact sent_ce h hk m1 m2 m3 m4 m5 m6 w
theorem make_rowK (m : Nat) (hm : m ≤ 1000) (w : World) : (Instr.makeSlice 69 (.int .i64 (m : Int)) (.int .i64 (m : Int))).run Try.prog w = .ok (.slice (some ⟨w.heap.size, 0, none⟩) m m) (w.alloc (.cells (madeCells #[.slice none 0 0, .int .i64 0, .int .i64 0] (m * 3)) 38)) := by
  have hi : (Try.prog.info? 38).map (fun i => (i.zero, i.size, i.bytes)) = some (some (.agg #[.slice none 0 0, .int .i64 0, .int .i64 0]), 3, 40) := by kernel_rfl
  obtain ⟨i, hi, hzz⟩ := Option.map_eq_some_iff.1 hi
  simp only [Prod.mk.injEq] at hzz
  obtain ⟨hz, hs, hb⟩ := hzz
  have := run_make (P := Try.prog) w 69 38 i _ Try.underlying69 hi hz .i64 .i64 m m (by omega) (by omega) (by rw [hb]; omega) (by omega)
  rw [hs] at this
  simpa [Value.cells] using this
/-- The list of curves that Best fills: V is what stands in it. -/
structure Bst (w : World) (LB K k : Nat) (bs : List Bkt) (V : Nat → Nat → Value) (u : World) : Prop where
  res : Cur3 u w.heap.size (.slice none 0 0) (.int .i64 0) (.int .i64 0)
  cells : ∀ i c, i < K → c < 3 → u.cell? ⟨LB, i * 3 + c, none⟩ = some (V i c) ∧ u.frozen? ⟨LB, i * 3 + c, none⟩ = false
  fill : ∀ (i : Nat) (b : Bkt), i < k → bs[i]? = some b → (pacA b).c = 0 ∧ ∃ (a : Option Addr) (n cap : Nat), V i 0 = .slice a n cap ∧ V i 1 = .int .i64 (pacA b).p ∧ V i 2 = .int .i64 (pacA b).inc ∧ RowZ u a n cap (pacA b).zs ∧ ∀ x, a = some x → w.heap.size + 1 ≤ x.block ∧ x.block ≠ LB
  below : Below w.heap.size w u
  lt : w.heap.size < LB
theorem Bst.call {w u v : World} {LB K k : Nat} {bs : List Bkt} {V : Nat → Nat → Value} (h : Bst w LB K k bs V u) (hb : Below u.heap.size u v) : Bst w LB K k bs V v :=
  ⟨h.res.below hb, fun i c hi hc => by
    obtain ⟨h1, h2⟩ := h.cells i c hi hc
    exact ⟨(hb.cell (lt_of_cell h1)).trans h1, (hb.frozen (lt_of_cell h1)).trans h2⟩, fun i b hi hb2 => by
    obtain ⟨h0, a, n, cap, h1, h2, h3, h4, h5⟩ := h.fill i b hi hb2
    exact ⟨h0, a, n, cap, h1, h2, h3, h4.under hb, h5⟩, h.below.trans (hb.mono h.below.size), h.lt⟩
theorem cell_set_off {w : World} {B i j : Nat} {v : Value} (h : i ≠ j) : (w.setCell ⟨B, i, none⟩ v).cell? ⟨B, j, none⟩ = w.cell? ⟨B, j, none⟩ :=
  World.cell?_setCell_other _ _ _ _ (show _ from fun hx => h (by cases hx; rfl))
theorem Bst.start {w W : World} {K : Nat} (hr : Cur3 W w.heap.size (.slice none 0 0) (.int .i64 0) (.int .i64 0)) (hb : Below w.heap.size w W) (bs : List Bkt) (t : TypeId) :
    ∃ V, Bst w W.heap.size K 0 bs V (W.alloc (.cells (madeCells #[.slice none 0 0, .int .i64 0, .int .i64 0] (K * 3)) t)) := by
  refine ⟨fun i c => (#[.slice none 0 0, .int .i64 0, .int .i64 0] : Array Value)[(i * 3 + c) % 3]!, hr.alloc _, fun i c hi hc => ⟨?_, World.frozen?_alloc_at _ _ _ _ rfl⟩, fun i b hi => absurd hi (Nat.not_lt_zero _), hb.alloc hb.size _, hr.lt⟩
  rw [World.cell?_alloc_new]
  have h1 : i * 3 + c < K * 3 := by omega
  simp [madeCells, h1]
theorem Bst.step {w u : World} {LB K k : Nat} {bs : List Bkt} {V : Nat → Nat → Value} (h : Bst w LB K k bs V u) (hk : k < K) {b : Bkt} (hb : bs[k]? = some b) (hc : (pacA b).c = 0) {a : Option Addr} {n cap : Nat} (hr : RowZ u a n cap (pacA b).zs) (hx : ∀ x, a = some x → w.heap.size + 1 ≤ x.block ∧ x.block ≠ LB) :
    ∃ V', Bst w LB K (k + 1) bs V' (((u.setCell ⟨LB, k * 3, none⟩ (.slice a n cap)).setCell ⟨LB, k * 3 + 1, none⟩ (.int .i64 (pacA b).p)).setCell ⟨LB, k * 3 + 2, none⟩ (.int .i64 (pacA b).inc)) := by
  have hlt := h.lt
  have store : ∀ {a : Option Addr} {n cap : Nat} {zs : List Int} {u : World} (_ : RowZ u a n cap zs) (_ : ∀ x, a = some x → w.heap.size + 1 ≤ x.block ∧ x.block ≠ LB) (o : Nat) (v : Value), RowZ (u.setCell ⟨LB, o, none⟩ v) a n cap zs := fun hr hx o v => hr.store (fun x h1 _ => (hx x h1).2) _ _
  refine ⟨fun i c => if i = k then (if c = 0 then .slice a n cap else if c = 1 then .int .i64 (pacA b).p else .int .i64 (pacA b).inc) else V i c, ((h.res.other (by omega) _ _).other (by omega) _ _).other (by omega) _ _, fun i c hi hc3 => ?_, fun i d hi hd => ?_, ((h.below.setCell (p := ⟨LB, k * 3, none⟩) (by show w.heap.size ≤ LB; omega) _).setCell (p := ⟨LB, k * 3 + 1, none⟩) (by show w.heap.size ≤ LB; omega) _).setCell (p := ⟨LB, k * 3 + 2, none⟩) (by show w.heap.size ≤ LB; omega) _, hlt⟩
  · refine ⟨?_, by rw [World.frozen?_setCell, World.frozen?_setCell, World.frozen?_setCell]; exact (h.cells i c hi hc3).2⟩
    by_cases hik : i = k
    · subst hik
      rw [if_pos rfl]
      obtain ⟨k0, _⟩ := h.cells i 0 hi (by omega)
      obtain ⟨k1, _⟩ := h.cells i 1 hi (by omega)
      obtain ⟨k2, _⟩ := h.cells i 2 hi (by omega)
      have hc : c = 0 ∨ c = 1 ∨ c = 2 := by omega
      rcases hc with rfl | rfl | rfl
      · rw [if_pos rfl, cell_set_off (by omega), cell_set_off (by omega)]
        exact World.cell?_setCell_same _ _ _ k0
      · rw [if_neg (by omega), if_pos rfl, cell_set_off (by omega)]
        exact World.cell?_setCell_same _ _ _ (by rw [cell_set_off (by omega)]; exact k1)
      · rw [if_neg (by omega), if_neg (by omega)]
        exact World.cell?_setCell_same _ _ _ (by rw [cell_set_off (by omega), cell_set_off (by omega)]; exact k2)
    · rw [if_neg hik, cell_set_off (by omega), cell_set_off (by omega), cell_set_off (by omega)]
      exact (h.cells i c hi hc3).1
  · by_cases hik : i = k
    · subst hik
      rw [hb] at hd
      cases hd
      exact ⟨hc, a, n, cap, by simp, by simp, by simp, store (store (store hr hx _ _) hx _ _) hx _ _, hx⟩
    · obtain ⟨h0, a', n', cap', h1, h2, h3, h4, h5⟩ := h.fill i d (by omega) hd
      exact ⟨h0, a', n', cap', by simp only [if_neg hik]; exact h1, by simp only [if_neg hik]; exact h2, by simp only [if_neg hik]; exact h3, store (store (store h4 h5 _ _) h5 _ _) h5 _ _, h5⟩
theorem Bst.list {w u : World} {LB K : Nat} {bs : List Bkt} {V : Nat → Nat → Value} (h : Bst w LB K K bs V u) (hk : bs.length = K) : RowK (w.heap.size + 1) u LB (bs.map pacA) := fun i r hr => by
  rw [List.getElem?_map] at hr
  cases hb : bs[i]? with
  | none => rw [hb] at hr; cases hr
  | some b =>
    rw [hb] at hr
    obtain rfl : pacA b = r := Option.some.inj hr
    have hi : i < K := by have := (List.getElem?_eq_some_iff.1 hb).1; omega
    obtain ⟨h0, a, n, cap, h1, h2, h3, h4, h5⟩ := h.fill i b hi hb
    exact ⟨a, n, cap, by rw [← h1]; exact (h.cells i 0 hi (by omega)).1, by rw [← h2]; exact (h.cells i 1 hi (by omega)).1, by rw [← h3]; exact (h.cells i 2 hi (by omega)).1, h4, fun x hx => (h5 x hx).1⟩

set_option maxRecDepth 100000 in
set_option maxHeartbeats 3200000 in
theorem best_any (B K cap : Nat) (bs : List Bkt) (hk : bs.length = K) (hK : K ≤ 1000) (hcap : K ≤ cap) (w : World) (h : RowB w B 0 bs) :
    Calls Try.prog 24 #[.slice (some ⟨B, 0, none⟩) K cap] w (GivesCE (bestA bs).zs (bestA bs).p (bestA bs).inc (bestA bs).c w) := by
  have KR := Lib.hid (Cur3.new w (.slice none 0 0) (.int .i64 0) (.int .i64 0) 38)
  have hB := below_box (w := w) (.cells #[.slice none 0 0, .int .i64 0, .int .i64 0] 38)
  have HL := Lib.hid (h.under hB)
  have HB := Lib.hid hB
  have HK := Lib.hid hk
  clear h hB
  obtain ⟨ans, hans⟩ : ∃ r, bestA bs = r := ⟨_, rfl⟩
  rw [hans]
  have HA := Lib.hid hans
  clear hans
  obtain ⟨W, hW⟩ : ∃ W, w.alloc (.cells #[.slice none 0 0, .int .i64 0, .int .i64 0] 38) = W := ⟨_, rfl⟩
  rw [hW] at KR HL HB
  have HW := Lib.hid hW
  clear hW
  by_cases h0 : K = 0
  · subst h0
    have HZ := Lib.hid (HA.out.symm.trans (bestA_zero hk))
    clear hk
    go_enter Try.func24, Try.ntmps24
    go_upto_region 1 with fail
    rw [HW.out]
    obtain ⟨e0, e1, e2, e3, e4, e5⟩ := KR.out
    go_wp2_with fail
    refine bodyPost_ret (v := .tuple #[curV none 0 0 0 0, .int .i64 2]) (by simp [results, Try.results24, go_sem, e0, e1, e2, e3, e4, e5]) rfl ?_
    rw [HZ.out]; exact GivesCE.postBad (b := w.heap.size) HB.out (Nat.le_refl _) 2
  have h0i : ¬ (K : Int) = 0 := by omega
  have h0b : ((K : Int) == 0) = false := by simpa using h0
  by_cases h20 : 20 < K
  · have HZ := Lib.hid (HA.out.symm.trans (bestA_long (by omega)))
    have h20i : (20 : Int) < (K : Int) := by omega
    clear hk
    go_enter Try.func24, Try.ntmps24
    go_upto_region 1 with fail
    rw [HW.out]
    obtain ⟨e0, e1, e2, e3, e4, e5⟩ := KR.out
    go_wp2_with fail
    refine bodyPost_ret (v := .tuple #[curV none 0 0 0 0, .int .i64 3]) (by simp [results, Try.results24, go_sem, e0, e1, e2, e3, e4, e5]) rfl ?_
    rw [HZ.out]; exact GivesCE.postBad (b := w.heap.size) HB.out (Nat.le_refl _) 3
  have h20i : ¬ (20 : Int) < (K : Int) := by omega
  cases hbad : badL bs with
  | true =>
    have HZ := Lib.hid (HA.out.symm.trans (bestA_bad (by omega) (by omega) hbad))
    have HBD := Lib.hid hbad
    clear hbad hk
    go_enter Try.func24, Try.ntmps24
    go_upto_region 1 with fail
    rw [HW.out]
    go_wp2_with fail
    refine (svcontains_any B K cap bs HK.out hK true HBD.out _ HL.out).mono ?_
    rintro e u1 ⟨rfl, hb⟩
    have HB1 := Lib.hid (HB.out.trans (hb.mono HB.out.size))
    have KR1 := Lib.hid (KR.out.below hb)
    clear hb
    obtain ⟨e0, e1, e2, e3, e4, e5⟩ := KR1.out
    go_wp2_with fail
    refine bodyPost_ret (v := .tuple #[curV none 0 0 0 0, .int .i64 2]) (by simp [results, Try.results24, go_sem, e0, e1, e2, e3, e4, e5]) rfl ?_
    rw [HZ.out]; exact GivesCE.postBad (b := w.heap.size) HB1.out (Nat.le_refl _) 2
  | false =>
    have HBD := Lib.hid hbad
    have hmk := make_rowK K hK
    have hKn : (K : Int) < 1001 := by omega
    clear hbad hk
    go_enter Try.func24, Try.ntmps24
    go_upto_region 1 with fail
    rw [HW.out]
    clear HW
    go_wp2_with fail
    refine (svcontains_any B K cap bs HK.out hK false HBD.out _ HL.out).mono ?_
    rintro e u1 ⟨rfl, hb⟩
    have HL1 := Lib.hid (HL.out.under hb)
    have KR1 := Lib.hid (KR.out.below hb)
    have HB1 := Lib.hid (HB.out.trans (hb.mono HB.out.size))
    clear hb
    obtain ⟨V0, hV0⟩ := Bst.start (K := K) KR1.out HB1.out bs 38
    obtain ⟨u2, hw⟩ : ∃ w', u1.alloc (.cells (madeCells #[.slice none 0 0, .int .i64 0, .int .i64 0] (K * 3)) 38) = w' := ⟨_, rfl⟩
    have hz : Below u1.heap.size u1 u2 := by rw [← hw]; exact below_box _
    rw [hw] at hV0
    have S0 := Lib.hid hV0
    have HL2 := Lib.hid (HL1.out.under hz)
    have HBLB := Lib.hid (show B ≠ u1.heap.size by
      obtain ⟨b, hb⟩ : ∃ b, bs[0]? = some b := ⟨_, List.getElem?_eq_getElem (by have := HK.out; omega)⟩
      have h1 : B < u1.heap.size := lt_of_cell (HL1.out.at0 hb).1
      omega)
    have HW := Lib.hid hw
    clear hw hz hV0
    go_upto_region 8 with fail
    try rw [HW.out]
    obtain ⟨LB, hL⟩ : ∃ L, u1.heap.size = L := ⟨_, rfl⟩
    rw [hL] at S0 HBLB
    try rw [hL]
    clear HW hL hmk
    go_wp2_with fail
    go_loopw [25] (fun s25 wx => ∃ (k : Nat) (V : Nat → Nat → Value), s25 = .int .i64 k ∧ k ≤ K ∧ Hid (Bst w LB K k bs V wx) ∧ Hid (RowB wx B 0 bs)) (fun s25 _ => K - (intOf s25).toNat)
    case atStart => exact ⟨0, V0, by go_num, Nat.zero_le _, S0, HL2⟩
    case round =>
      obtain ⟨k, V, rfl, hk, HS, HLX⟩ := hrel
      obtain ⟨wk, rfl⟩ : ∃ u : World, u = wr := ⟨_, rfl⟩
      by_cases hlt : k < K
      · obtain ⟨b, hb⟩ : ∃ b, bs[k]? = some b := ⟨_, List.getElem?_eq_getElem (by have := HK.out; omega)⟩
        have HBK := Lib.hid hb
        have hki : (k : Int) < (K : Int) := by omega
        obtain ⟨c0, c1, c2, c3⟩ := HLX.out.at0 hb
        obtain ⟨w2, hw⟩ : ∃ w', wk.alloc (.cells #[.int .i64 b.bn, .int .i64 b.bd, .int .i64 b.rn, .int .i64 b.rd] 25) = w' := ⟨_, rfl⟩
        have hz : Below wk.heap.size wk w2 := by rw [← hw]; exact below_box _
        have S2 := Lib.hid (HS.out.call hz)
        have XB := Lib.hid (show Bk4 w2 wk.heap.size b.bn b.bd b.rn b.rd by rw [← hw]; exact Bk4.new _ _ _ _ _ _)
        have HL3 := Lib.hid (HLX.out.under hz)
        have HW := Lib.hid hw
        clear hb hw hz HS HLX
        go_upto_region 11 with fail
        try rw [HW.out]
        obtain ⟨G, hG⟩ : ∃ B, wk.heap.size = B := ⟨_, rfl⟩
        rw [hG] at XB
        try rw [hG]
        clear HW hG c0 c1 c2 c3
        obtain ⟨s, hs⟩ : ∃ s, pacA b = s := ⟨_, rfl⟩
        have HSE := Lib.hid (show ∀ u, Calls Try.prog 96 #[bucketV b.bn b.bd b.rn b.rd] u (GivesCE s.zs s.p s.inc s.c u) from fun u => by rw [← hs]; exact sent_rs (badL_ok HBD.out HBK.out) u)
        have HPS := Lib.hid hs
        clear hs
        obtain ⟨d0, d1, d2, d3⟩ := XB.out
        go_wp2_with fail
        clear d0 d1 d2 d3
        refine (HSE.out _).mono ?_
        rintro e w3 ⟨a3, n3, cap3, rfl, hb, hr3, hx3⟩
        obtain ⟨w4, hw⟩ : ∃ w', w3.alloc (.cells #[.slice a3 n3 cap3, .int .i64 s.p, .int .i64 s.inc] 38) = w' := ⟨_, rfl⟩
        have hz : Below w2.heap.size w2 w4 := by rw [← hw]; exact hb.trans ((below_box _).mono hb.size)
        have S4 := Lib.hid (S2.out.call hz)
        have HL4 := Lib.hid (HL3.out.under hz)
        have XC := Lib.hid (show Cur3 w4 w3.heap.size (.slice a3 n3 cap3) (.int .i64 s.p) (.int .i64 s.inc) by rw [← hw]; exact Cur3.new _ _ _ _ _)
        have XR := Lib.hid (show RowZ w4 a3 n3 cap3 s.zs by rw [← hw]; exact RowZ.under hr3 (below_box _))
        have hlb : LB < w2.heap.size := lt_of_cell (S2.out.cells k 0 hlt (by omega)).1
        have XF := Lib.hid (show ∀ x, a3 = some x → w.heap.size + 1 ≤ x.block ∧ x.block ≠ LB from fun x hx => by
          have h1 := hx3 x hx
          have h2 := S2.out.lt
          constructor <;> omega)
        have HW := Lib.hid hw
        clear hb hw hz hr3 hx3 hlb
        go_upto_region 12 with fail
        try rw [HW.out]
        obtain ⟨C, hC⟩ : ∃ B, w3.heap.size = B := ⟨_, rfl⟩
        rw [hC] at XC
        try rw [hC]
        clear HW hC
        by_cases hc : s.c = 0
        · have ec : (s.c != 0) = false := by simpa using hc
          have ec2 : (s.c == 0) = true := by simpa using hc
          obtain ⟨V', hV'⟩ := S4.out.step hlt HBK.out (by rw [HPS.out]; exact hc) (by rw [HPS.out]; exact XR.out) XF.out
          rw [HPS.out] at hV'
          obtain ⟨w5, hw⟩ : ∃ w', (((w4.setCell ⟨LB, k * 3, none⟩ (.slice a3 n3 cap3)).setCell ⟨LB, k * 3 + 1, none⟩ (.int .i64 s.p)).setCell ⟨LB, k * 3 + 2, none⟩ (.int .i64 s.inc)) = w' := ⟨_, rfl⟩
          have HL5 := Lib.hid (show RowB w5 B 0 bs by rw [← hw]; exact ((HL4.out.other HBLB.out _ _).other HBLB.out _ _).other HBLB.out _ _)
          rw [hw] at hV'
          have S5 := Lib.hid hV'
          have HW := Lib.hid hw
          obtain ⟨y0, z0⟩ := S4.out.cells k 0 hlt (by omega)
          obtain ⟨y1, z1⟩ := S4.out.cells k 1 hlt (by omega)
          obtain ⟨y2, z2⟩ := S4.out.cells k 2 hlt (by omega)
          rw [Nat.add_zero] at y0 z0
          obtain ⟨d0, d1, d2, d3, d4, d5⟩ := XC.out
          clear hw hV' hc
          go_upto_region 15 with fail
          try rw [HW.out]
          clear HW y0 y1 y2 z0 z1 z2 d0 d1 d2 d3 d4 d5
          go_wp2_with fail
          go_roundw
          case rel => exact ⟨k + 1, V', by go_num, by omega, S5, HL5⟩
          case measure => simp [intOf]; omega
        · have ec : (s.c != 0) = true := by simpa using hc
          have ec2 : (s.c == 0) = false := by simpa using hc
          have HLI := Lib.hid (show s = Rs.lim by rw [← HPS.out]; exact (pacA_is b).ok.of (by rw [HPS.out]; exact hc))
          have HZ := Lib.hid (HA.out.symm.trans (bestA_lim (by have := HK.out; omega) (by have := HK.out; omega) HBD.out HBK.out (by rw [HPS.out]; exact hc)))
          have HC3 := Lib.hid (show s.c = 3 by rw [HLI.out]; rfl)
          obtain ⟨e0, e1, e2, e3, e4, e5⟩ := S4.out.res
          clear hc
          go_wp2_with fail
          refine bodyPost_ret (v := .tuple #[curV none 0 0 0 0, .int .i64 s.c]) (by simp [results, Try.results24, go_sem, e0, e1, e2, e3, e4, e5]) rfl ?_
          rw [HZ.out, HC3.out]; exact GivesCE.postBad (b := w.heap.size) S4.out.below (Nat.le_refl _) 3
      · obtain rfl : k = K := by omega
        have HAC := Lib.hid (show ∀ (i : Nat) (b : Bkt), bs[i]? = some b → (pacA b).c = 0 from fun i b hb => (HS.out.fill i b (by have := (List.getElem?_eq_some_iff.1 hb).1; have := HK.out; omega) hb).1)
        have HZ := Lib.hid (HA.out.symm.trans (bestA_fold (by have := HK.out; omega) (by have := HK.out; omega) HBD.out HAC.out))
        have HFO := Lib.hid (foldedC_any (w.heap.size + 1) LB k k (bs.map pacA) (allC_map HAC.out) (by rw [List.length_map]; exact HK.out) (by omega) hK (Nat.le_refl _) wk (by have := HS.out.lt; have := lt_of_cell (HS.out.cells 0 0 (by omega) (by omega)).1; have h3 : LB < wk.heap.size := this; omega) (HS.out.list HK.out))
        have HZ2 := Lib.hid (show ans = foldM (bs.map pacA) ((bs.map pacA).length - 1) by rw [HZ.out, List.length_map])
        go_wp2_with fail
        refine HFO.out.mono ?_
        rw [← HZ2.out]
        rintro e u5 ⟨a, n, cap', rfl, hb, hr, hx⟩
        have S5 := Lib.hid (HS.out.call hb)
        have HQ := Lib.hid (show GivesCE ans.zs ans.p ans.inc ans.c w (.returned (.tuple #[curV a n cap' ans.p ans.inc, .int .i64 ans.c])) (((u5.setCell ⟨w.heap.size, 0, none⟩ (.slice a n cap')).setCell ⟨w.heap.size, 1, none⟩ (.int .i64 ans.p)).setCell ⟨w.heap.size, 2, none⟩ (.int .i64 ans.inc)) from by
          have hne : ∀ x, a = some x → 1 ≤ n → x.block ≠ w.heap.size := fun x h1 _ => by have := hx x h1; omega
          exact ⟨a, n, cap', rfl, below_set3 S5.out.below (Nat.le_refl _) _ _ _, ((hr.store hne _ _).store hne _ _).store hne _ _, fun x h1 => by have := hx x h1; omega⟩)
        obtain ⟨e0, e1, e2, e3, e4, e5⟩ := S5.out.res
        clear hb hr hx
        go_wp2_with fail
        exact bodyPost_ret (v := .tuple #[curV a n cap' ans.p ans.inc, .int .i64 ans.c]) (by simp [results, Try.results24, go_sem, e0, e1, e2, e3, e4, e5]) rfl HQ.out

end Go.Proofs.Ytjipmkgnndldpaa

namespace Go.Proofs.Ytjipmkgnndldpaa
open Go.RowKit
set_option linter.unusedSimpArgs false
set_option linter.unusedVariables false

theorem RowC.other4 {u : World} {B off L : Nat} {bs : List Bkt} (h : RowC u B off bs) (hq : B ≠ L) (y0 y1 y2 y3 : Value) : RowC ((((u.setCell ⟨L, 0, none⟩ y0).setCell ⟨L, 1, none⟩ y1).setCell ⟨L, 2, none⟩ y2).setCell ⟨L, 3, none⟩ y3) B off bs :=
  (((h.other hq _ _).other hq _ _).other hq _ _).other hq _ _
set_option maxHeartbeats 800000 in
theorem chainC_nil (A : Option Addr) (cap : Nat) (w : World) : Calls Try.prog 26 #[.slice A 0 cap] w (GivesPk (chainA []) w) := by
  rw [chainA_zero (bs := []) rfl]
  have KR := Lib.hid (Pq4.new w 0 0 0 0 25)
  have HB := Lib.hid (below_box (w := w) (.cells #[.int .i64 0, .int .i64 0, .int .i64 0, .int .i64 0] 25))
  go_enter Try.func26, Try.ntmps26
  go_upto_region 1 with fail
  generalize w.alloc (.cells #[.int .i64 0, .int .i64 0, .int .i64 0, .int .i64 0] 25) = W at KR HB ⊢
  obtain ⟨e0, e1, e2, e3, e4, e5, e6, e7⟩ := KR.out
  go_wp2_with fail
  exact bodyPost_ret (v := .tuple #[bucketV 0 0 0 0, .int .i64 2]) (by simp [results, Try.results26, go_sem, e0, e1, e2, e3, e4, e5, e6, e7]) rfl ⟨rfl, svbelow4 HB.out (Nat.le_refl _) _ _ _ _⟩

set_option maxHeartbeats 800000 in
theorem bestC_nil (A : Option Addr) (cap : Nat) (w : World) : Calls Try.prog 24 #[.slice A 0 cap] w (GivesCE (bestA []).zs (bestA []).p (bestA []).inc (bestA []).c w) := by
  rw [bestA_zero (bs := []) rfl]
  have KR := Lib.hid (Cur3.new w (.slice none 0 0) (.int .i64 0) (.int .i64 0) 38)
  have HB := Lib.hid (below_box (w := w) (.cells #[.slice none 0 0, .int .i64 0, .int .i64 0] 38))
  go_enter Try.func24, Try.ntmps24
  go_upto_region 1 with fail
  generalize w.alloc (.cells #[.slice none 0 0, .int .i64 0, .int .i64 0] 38) = W at KR HB ⊢
  obtain ⟨e0, e1, e2, e3, e4, e5⟩ := KR.out
  go_wp2_with fail
  exact bodyPost_ret (v := .tuple #[curV none 0 0 0 0, .int .i64 2]) (by simp [results, Try.results24, go_sem, e0, e1, e2, e3, e4, e5]) rfl (GivesCE.postBad (b := w.heap.size) HB.out (Nat.le_refl _) 2)

set_option maxHeartbeats 800000 in
theorem svindexC (B off K cap : Nat) (bs : List Bkt) (hk : bs.length = K) (hK : K ≤ 1000) (w : World) (h : RowC w B off bs) :
    Calls Try.prog 194 #[.slice (some ⟨B, off, none⟩) K cap, .func (.func 95) #[] #[]] w fun e w' => ∃ r : Int, -1 ≤ r ∧ r ≤ 1000 ∧ decide (0 ≤ r) = badL bs ∧ e = .returned (.int .i64 r) ∧ Below w.heap.size w w' := by
  have H := Lib.hid h
  have HK := Lib.hid hk
  clear h hk
  go_enter Try.func194, Try.ntmps194
  go_wp2_with fail
  go_loopw [8] (fun vi wx => ∃ k : Nat, vi = .int .i64 k ∧ k ≤ K ∧ Hid (∀ (i : Nat) (b : Bkt), i < k → bs[i]? = some b → b.ok = true) ∧ Hid (Below w.heap.size w wx)) (fun vi _ => K - (intOf vi).toNat)
  case atStart => exact ⟨0, by go_num, Nat.zero_le _, fun i b hi => absurd hi (Nat.not_lt_zero _), Below.refl _ _⟩
  case round =>
    obtain ⟨k, rfl, hk, hall, HW⟩ := hrel
    obtain ⟨wk, rfl⟩ : ∃ u : World, u = wr := ⟨_, rfl⟩
    by_cases hlt : k < K
    · obtain ⟨b, hc⟩ : ∃ b, bs[k]? = some b := ⟨_, List.getElem?_eq_getElem (by rw [HK.out]; exact hlt)⟩
      obtain ⟨c0, c1, c2, c3⟩ := (H.out.under HW.out).at0 hc
      obtain ⟨ok, hok⟩ : ∃ o, b.ok = o := ⟨_, rfl⟩
      have HC := Lib.hid (And.intro hc hok)
      have hlI : (k : Int) < (K : Int) := by omega
      clear hc hok
      go_wp2_with fail
      clear c0 c1 c2 c3
      refine (svfaulty_any b.bn b.bd b.rn b.rd ok HC.out.2 _).mono ?_
      rintro e w1 ⟨rfl, hb⟩
      have HW1 := Lib.hid (HW.out.trans (hb.mono HW.out.size))
      clear hb
      cases ok with
      | false =>
        go_wp2_with fail
        go_ret
        exact ⟨k, by omega, by omega, by rw [badL_of HC.out.1 HC.out.2]; simp, rfl, HW1.out⟩
      | true =>
        have hall2 := Lib.hid (show ∀ i c, i < k + 1 → bs[i]? = some c → c.ok = true from fun i c hi hc => by
          by_cases he : i = k
          · subst he; rw [HC.out.1] at hc; cases hc; exact HC.out.2
          · exact hall.out i c (by omega) hc)
        go_wp2_with fail
        go_roundw
        case rel => exact ⟨k + 1, by go_num, by omega, hall2, HW1⟩
        case measure => simp [intOf]; omega
    · obtain rfl : k = K := by omega
      go_wp2_with fail
      go_ret
      exact ⟨-1, by omega, by omega, by rw [badL_not (fun i b hb => hall.out i b (by have := (List.getElem?_eq_some_iff.1 hb).1; have := HK.out; omega) hb)]; simp, rfl, HW.out⟩

set_option maxHeartbeats 400000 in
theorem svcontainsC (B off K cap : Nat) (bs : List Bkt) (hk : bs.length = K) (hK : K ≤ 1000) (c : Bool) (hc : badL bs = c) (w : World) (h : RowC w B off bs) :
    Calls Try.prog 100 #[.slice (some ⟨B, off, none⟩) K cap, .func (.func 95) #[] #[]] w (Says (.bool c) w) := by
  have H := Lib.hid h
  have HB := Lib.hid (And.intro hc hk)
  clear h hc hk
  go_enter Try.func100, Try.ntmps100
  go_wp2_with fail
  refine (svindexC B off K cap bs HB.out.2 hK _ H.out).mono ?_
  rintro e w1 ⟨r, h1, h2, h3, rfl, hb⟩
  rw [HB.out.1] at h3
  subst h3
  have HW := Lib.hid hb
  clear hb
  go_wp2_with fail
  go_ret
  exact ⟨rfl, HW.out⟩

set_option maxRecDepth 100000 in
set_option maxHeartbeats 3200000 in
theorem foldedPC (B off K cap : Nat) (bs : List Bkt) (hk : bs.length = K) (h0 : 1 ≤ K) (hK : K ≤ 1000) (hcap : K ≤ cap) (w : World) (h : RowC w B off bs) :
    Calls Try.prog 102 #[.slice (some ⟨B, off, none⟩) K cap, .func (.func 103) #[] #[]] w (GivesPk (chainF bs (bs.length - 1)) w) := by
  have KR := Lib.hid (Pq4.new w 0 0 0 0 25)
  have hB := below_box (w := w) (.cells #[.int .i64 0, .int .i64 0, .int .i64 0, .int .i64 0] 25)
  have HL := Lib.hid (h.under hB)
  have HB := Lib.hid hB
  have HK := Lib.hid hk
  obtain ⟨b0, hb0⟩ : ∃ b, bs[0]? = some b := ⟨_, List.getElem?_eq_getElem (by omega)⟩
  have HBW := Lib.hid (show B < w.heap.size from lt_of_cell (h.at0 hb0).1)
  clear h hB
  obtain ⟨ans, hans⟩ : ∃ r, chainF bs (bs.length - 1) = r := ⟨_, rfl⟩
  rw [hans]
  have HZ := Lib.hid hans.symm
  clear hans
  obtain ⟨W, hW⟩ : ∃ W, w.alloc (.cells #[.int .i64 0, .int .i64 0, .int .i64 0, .int .i64 0] 25) = W := ⟨_, rfl⟩
  have HWS := Lib.hid (show W.heap.size = w.heap.size + 1 by rw [← hW]; simp)
  rw [hW] at KR HL HB
  have HW := Lib.hid hW
  have HB0 := Lib.hid hb0
  clear hW hb0
  obtain ⟨r0, hr0⟩ : ∃ r : Pk, r = ⟨b0.bn, b0.bd, b0.rn, b0.rd, 0⟩ := ⟨_, rfl⟩
  have HR0 := Lib.hid (show chainF bs 0 = ⟨b0.bn, b0.bd, b0.rn, b0.rd, 0⟩ by unfold chainF; rw [getD_some HB0.out])
  clear r0 hr0
  obtain ⟨M, hM⟩ : ∃ M : Nat, K = M + 1 := ⟨K - 1, by omega⟩
  have hMi : (K : Int) - 1 = (M : Int) := by omega
  have hMn : K - 1 = M := by omega
  have hM2 : 1 ≤ K := h0
  have HMM := Lib.hid hM
  clear hM hk
  obtain ⟨w3, hw⟩ : ∃ w', W.alloc (.cells #[.int .i64 b0.bn, .int .i64 b0.bd, .int .i64 b0.rn, .int .i64 b0.rd] 25) = w' := ⟨_, rfl⟩
  have hz : Below W.heap.size W w3 := by rw [← hw]; exact below_box _
  have S0 := Lib.hid (show Fp w w3 W.heap.size ⟨b0.bn, b0.bd, b0.rn, b0.rd, 0⟩ from ⟨KR.out.below hz, by rw [← hw]; exact Pq4.new _ _ _ _ _ _, KR.out.lt, HB.out.trans (hz.mono HB.out.size)⟩)
  have HL3 := Lib.hid (HL.out.under hz)
  have HBL0 := Lib.hid (show B ≠ W.heap.size from by have := HBW.out; have := HWS.out; omega)
  have HW3 := Lib.hid hw
  obtain ⟨c0, c1, c2, c3⟩ := HL.out.at0 HB0.out
  simp only [Nat.zero_mul, Nat.add_zero] at c0 c1 c2 c3
  clear hw hz
  go_enter Try.func102, Try.ntmps102
  go_upto_region 1 with fail
  rw [HW.out]
  go_upto_region 2 with fail
  try rw [HW3.out]
  obtain ⟨L, hL⟩ : ∃ L, W.heap.size = L := ⟨_, rfl⟩
  rw [hL] at S0 HBL0
  have HBL := HBL0
  try rw [hL]
  clear HW HW3 hL c0 c1 c2 c3 HBL0
  have HR0' := HR0
  by_cases hcp : cap = 1
  · subst hcp
    obtain rfl : M = 0 := by omega
    go_wp2_with fail
    go_loopw [16, 7] (fun s16 s7 wx => ∃ (k : Nat) (r : Pk), s16 = .int .i64 k ∧ s7 = .int .i64 r.c ∧ r.c = 0 ∧ k ≤ 0 ∧ Hid (chainF bs k = r) ∧ Hid (Fp w wx L r) ∧ Hid (RowC wx B off bs)) (fun s16 _ _ => 0 - (intOf s16).toNat)
    case atStart => exact ⟨0, ⟨b0.bn, b0.bd, b0.rn, b0.rd, 0⟩, by go_num, rfl, rfl, Nat.zero_le _, HR0, S0, HL3⟩
    case round =>
      obtain ⟨k, r, rfl, rfl, hc0, hk, HF, HS, HB⟩ := hrel
      obtain ⟨wk, rfl⟩ : ∃ u : World, u = wr := ⟨_, rfl⟩
      by_cases hlt : k < 0
      · exact absurd hlt (by omega)
      · obtain rfl : k = 0 := by omega
        have HZ2 := Lib.hid (show ans = r by rw [HZ.out, ← HF.out, show bs.length - 1 = 0 from by have := HK.out; have := HMM.out; omega])
        have HP := Lib.hid HS.out.post
        obtain ⟨c0, c1, c2, c3, _, _, _, _⟩ := HS.out.box
        obtain ⟨e0, e1, e2, e3, e4, e5, e6, e7⟩ := HS.out.res
        have hl1 := HS.out.lt
        have hl2 : ¬ w.heap.size = L := by omega
        have hl3 : ¬ L = w.heap.size := by omega
        go_wp2_with fail
        refine bodyPost_ret (v := .tuple #[bucketV r.rn r.rd r.ln r.ld, .int .i64 r.c]) (by simp [results, Try.results102, go_sem, e0, e1, e2, e3, e4, e5, e6, e7]) rfl ?_
        rw [HZ2.out]; exact HP.out
  · have hcp2 : ¬ cap - 1 = 0 := by omega
    go_wp2_with fail
    go_loopw [16, 7] (fun s16 s7 wx => ∃ (k : Nat) (r : Pk), s16 = .int .i64 k ∧ s7 = .int .i64 r.c ∧ r.c = 0 ∧ k ≤ M ∧ Hid (chainF bs k = r) ∧ Hid (Fp w wx L r) ∧ Hid (RowC wx B off bs)) (fun s16 _ _ => M - (intOf s16).toNat)
    case atStart => exact ⟨0, ⟨b0.bn, b0.bd, b0.rn, b0.rd, 0⟩, by go_num, rfl, rfl, Nat.zero_le _, HR0, S0, HL3⟩
    case round =>
      obtain ⟨k, r, rfl, rfl, hc0, hk, HF, HS, HB⟩ := hrel
      obtain ⟨wk, rfl⟩ : ∃ u : World, u = wr := ⟨_, rfl⟩
      by_cases hlt : k < M
      · obtain ⟨b, hb⟩ : ∃ b, bs[k + 1]? = some b := ⟨_, List.getElem?_eq_getElem (by have := HK.out; have := HMM.out; omega)⟩
        obtain ⟨t, ht⟩ : ∃ t, linkA ⟨r.rn, r.rd, r.ln, r.ld, 0⟩ b = t := ⟨_, rfl⟩
        have HFN := Lib.hid (show chainF bs (k + 1) = t by
          have h := chainF_c0 (bs := bs) (k := k) (by rw [HF.out]; exact hc0) hb
          rw [HF.out, ht] at h; exact h)
        have HCA := Lib.hid (show ∀ u, Calls Try.prog 103 #[bucketV r.rn r.rd r.ln r.ld, bucketV b.bn b.bd b.rn b.rd] u (GivesPk t u) from fun u => by rw [← ht]; exact chained_any ⟨r.rn, r.rd, r.ln, r.ld⟩ b u)
        obtain ⟨c0, c1, c2, c3⟩ := HB.out.at0 hb
        rw [show off + (k + 1) * 4 = off + 4 + k * 4 by omega] at c0 c1 c2 c3
        have hki : (k : Int) < (M : Int) := by omega
        obtain ⟨w2, hw⟩ : ∃ w', wk.alloc (.cells #[.int .i64 b.bn, .int .i64 b.bd, .int .i64 b.rn, .int .i64 b.rd] 25) = w' := ⟨_, rfl⟩
        have hz : Below wk.heap.size wk w2 := by rw [← hw]; exact below_box _
        have S2 := Lib.hid (HS.out.call hz)
        have XB := Lib.hid (show Bk4 w2 wk.heap.size b.bn b.bd b.rn b.rd by rw [← hw]; exact Bk4.new _ _ _ _ _ _)
        have HB2 := Lib.hid (HB.out.under hz)
        have HW := Lib.hid hw
        have HC0 := Lib.hid hc0
        clear hb hw hz HB HS ht hc0
        go_upto_region 5 with fail
        try rw [HW.out]
        obtain ⟨G, hG⟩ : ∃ B, wk.heap.size = B := ⟨_, rfl⟩
        rw [hG] at XB
        try rw [hG]
        clear HW hG c0 c1 c2 c3
        obtain ⟨c0, c1, c2, c3, _, _, _, _⟩ := S2.out.box
        obtain ⟨d0, d1, d2, d3⟩ := XB.out
        go_wp2_with fail
        clear c0 c1 c2 c3 d0 d1 d2 d3
        refine (HCA.out _).mono ?_
        rintro e w3 ⟨rfl, hb⟩
        have S3 := Lib.hid (S2.out.call hb)
        obtain ⟨w4, hw⟩ : ∃ w', ((((w3.setCell ⟨L, 0, none⟩ (.int .i64 t.rn)).setCell ⟨L, 1, none⟩ (.int .i64 t.rd)).setCell ⟨L, 2, none⟩ (.int .i64 t.ln)).setCell ⟨L, 3, none⟩ (.int .i64 t.ld)) = w' := ⟨_, rfl⟩
        have S4 := Lib.hid (show Fp w w4 L t by rw [← hw]; exact S3.out.lay)
        have HB4 := Lib.hid (show RowC w4 B off bs by rw [← hw]; exact (HB2.out.under hb).other4 HBL.out _ _ _ _)
        obtain ⟨c0, c1, c2, c3, c4, c5, c6, c7⟩ := S3.out.box
        have HW := Lib.hid hw
        clear hb hw
        go_upto_region 6 with fail
        try rw [HW.out]
        clear HW c0 c1 c2 c3 c4 c5 c6 c7
        by_cases htc : t.c = 0
        · have ec : (t.c != 0) = false := by simpa using htc
          have ec2 : (t.c == 0) = true := by simpa using htc
          have HTC := Lib.hid htc
          clear htc
          go_wp2_with fail
          go_roundw
          case rel => exact ⟨k + 1, t, by go_num, rfl, HTC.out, by omega, HFN, S4, HB4⟩
          case measure => simp [intOf]; omega
        · have ec : (t.c != 0) = true := by simpa using htc
          have ec2 : (t.c == 0) = false := by simpa using htc
          have HZ2 := Lib.hid (show ans = t by
            have h := chainF_stop (bs := bs) (k := k + 1) (by rw [HFN.out]; exact htc) (bs.length - 1 - (k + 1))
            rw [HFN.out, show k + 1 + (bs.length - 1 - (k + 1)) = bs.length - 1 by have := HK.out; have := HMM.out; omega] at h
            rw [HZ.out, h])
          obtain ⟨r, hr⟩ : ∃ r, t = r := ⟨_, rfl⟩
          rw [hr] at HZ2 S4 ec ec2 ⊢
          have HS := S4
          clear htc
          have HP := Lib.hid HS.out.post
          obtain ⟨c0, c1, c2, c3, _, _, _, _⟩ := HS.out.box
          obtain ⟨e0, e1, e2, e3, e4, e5, e6, e7⟩ := HS.out.res
          have hl1 := HS.out.lt
          have hl2 : ¬ w.heap.size = L := by omega
          have hl3 : ¬ L = w.heap.size := by omega
          go_wp2_with fail
          refine bodyPost_ret (v := .tuple #[bucketV r.rn r.rd r.ln r.ld, .int .i64 r.c]) (by simp [results, Try.results102, go_sem, e0, e1, e2, e3, e4, e5, e6, e7]) rfl ?_
          rw [HZ2.out]; exact HP.out

      · obtain rfl : k = M := by omega
        have HZ2 := Lib.hid (show ans = r by rw [HZ.out, ← HF.out, show bs.length - 1 = k from by have := HK.out; have := HMM.out; omega])
        have HP := Lib.hid HS.out.post
        obtain ⟨c0, c1, c2, c3, _, _, _, _⟩ := HS.out.box
        obtain ⟨e0, e1, e2, e3, e4, e5, e6, e7⟩ := HS.out.res
        have hl1 := HS.out.lt
        have hl2 : ¬ w.heap.size = L := by omega
        have hl3 : ¬ L = w.heap.size := by omega
        go_wp2_with fail
        refine bodyPost_ret (v := .tuple #[bucketV r.rn r.rd r.ln r.ld, .int .i64 r.c]) (by simp [results, Try.results102, go_sem, e0, e1, e2, e3, e4, e5, e6, e7]) rfl ?_
        rw [HZ2.out]; exact HP.out

set_option maxRecDepth 100000 in
set_option maxHeartbeats 1600000 in
theorem chainC (B off K cap : Nat) (bs : List Bkt) (hk : bs.length = K) (hK : K ≤ 1000) (hcap : K ≤ cap) (w : World) (h : RowC w B off bs) :
    Calls Try.prog 26 #[.slice (some ⟨B, off, none⟩) K cap] w (GivesPk (chainA bs) w) := by
  have KR := Lib.hid (Pq4.new w 0 0 0 0 25)
  have hB := below_box (w := w) (.cells #[.int .i64 0, .int .i64 0, .int .i64 0, .int .i64 0] 25)
  have HL := Lib.hid (h.under hB)
  have HB := Lib.hid hB
  have HK := Lib.hid hk
  clear h hB
  obtain ⟨W, hW⟩ : ∃ W, w.alloc (.cells #[.int .i64 0, .int .i64 0, .int .i64 0, .int .i64 0] 25) = W := ⟨_, rfl⟩
  rw [hW] at KR HL HB
  have HW := Lib.hid hW
  clear hW
  by_cases h0 : K = 0
  · subst h0
    rw [chainA_zero hk]
    clear hk
    go_enter Try.func26, Try.ntmps26
    go_upto_region 1 with fail
    rw [HW.out]
    obtain ⟨e0, e1, e2, e3, e4, e5, e6, e7⟩ := KR.out
    go_wp2_with fail
    exact bodyPost_ret (v := .tuple #[bucketV 0 0 0 0, .int .i64 2]) (by simp [results, Try.results26, go_sem, e0, e1, e2, e3, e4, e5, e6, e7]) rfl ⟨rfl, svbelow4 HB.out (Nat.le_refl _) _ _ _ _⟩
  have h0i : ¬ (K : Int) = 0 := by omega
  have h0b : ((K : Int) == 0) = false := by simpa using h0
  cases hbad : badL bs with
  | true =>
    rw [chainA_bad hbad]
    have HBD := Lib.hid hbad
    clear hbad hk
    go_enter Try.func26, Try.ntmps26
    go_upto_region 1 with fail
    rw [HW.out]
    go_wp2_with fail
    refine (svcontainsC B off K cap bs HK.out hK true HBD.out _ HL.out).mono ?_
    rintro e u1 ⟨rfl, hb⟩
    have HB1 := Lib.hid (HB.out.trans (hb.mono HB.out.size))
    obtain ⟨e0, e1, e2, e3, e4, e5, e6, e7⟩ := KR.out.below hb
    clear hb
    go_wp2_with fail
    exact bodyPost_ret (v := .tuple #[bucketV 0 0 0 0, .int .i64 2]) (by simp [results, Try.results26, go_sem, e0, e1, e2, e3, e4, e5, e6, e7]) rfl ⟨rfl, svbelow4 HB1.out (Nat.le_refl _) _ _ _ _⟩
  | false =>
    rw [chainA_fold (by omega) hbad]
    have HBD := Lib.hid hbad
    obtain ⟨ans, hans⟩ : ∃ r, chainF bs (bs.length - 1) = r := ⟨_, rfl⟩
    have HFO := Lib.hid (show ∀ u, RowC u B off bs → Calls Try.prog 102 #[.slice (some ⟨B, off, none⟩) K cap, .func (.func 103) #[] #[]] u (GivesPk ans u) from fun u hu => by rw [← hans]; exact foldedPC B off K cap bs hk (by omega) hK hcap u hu)
    rw [hans]
    clear hbad hk hans
    go_enter Try.func26, Try.ntmps26
    go_upto_region 1 with fail
    rw [HW.out]
    go_wp2_with fail
    refine (svcontainsC B off K cap bs HK.out hK false HBD.out _ HL.out).mono ?_
    rintro e u1 ⟨rfl, hb⟩
    have HB1 := Lib.hid (HB.out.trans (hb.mono HB.out.size))
    have KR1 := Lib.hid (KR.out.below hb)
    have HL1 := Lib.hid (HL.out.under hb)
    clear hb
    go_wp2_with fail
    refine (HFO.out _ HL1.out).mono ?_
    rintro e u2 ⟨rfl, hb⟩
    have HB2 := Lib.hid (HB1.out.trans (hb.mono HB1.out.size))
    obtain ⟨e0, e1, e2, e3, e4, e5, e6, e7⟩ := KR1.out.below hb
    clear hb
    go_wp2_with fail
    exact bodyPost_ret (v := .tuple #[bucketV ans.rn ans.rd ans.ln ans.ld, .int .i64 ans.c]) (by simp [results, Try.results26, go_sem, e0, e1, e2, e3, e4, e5, e6, e7]) rfl ⟨rfl, svbelow4 HB2.out (Nat.le_refl _) _ _ _ _⟩

set_option maxRecDepth 100000 in
set_option maxHeartbeats 3200000 in
theorem bestC (B off K cap : Nat) (bs : List Bkt) (hk : bs.length = K) (hK : K ≤ 1000) (hcap : K ≤ cap) (w : World) (h : RowC w B off bs) :
    Calls Try.prog 24 #[.slice (some ⟨B, off, none⟩) K cap] w (GivesCE (bestA bs).zs (bestA bs).p (bestA bs).inc (bestA bs).c w) := by
  have KR := Lib.hid (Cur3.new w (.slice none 0 0) (.int .i64 0) (.int .i64 0) 38)
  have hB := below_box (w := w) (.cells #[.slice none 0 0, .int .i64 0, .int .i64 0] 38)
  have HL := Lib.hid (h.under hB)
  have HB := Lib.hid hB
  have HK := Lib.hid hk
  clear h hB
  obtain ⟨ans, hans⟩ : ∃ r, bestA bs = r := ⟨_, rfl⟩
  rw [hans]
  have HA := Lib.hid hans
  clear hans
  obtain ⟨W, hW⟩ : ∃ W, w.alloc (.cells #[.slice none 0 0, .int .i64 0, .int .i64 0] 38) = W := ⟨_, rfl⟩
  rw [hW] at KR HL HB
  have HW := Lib.hid hW
  clear hW
  by_cases h0 : K = 0
  · subst h0
    have HZ := Lib.hid (HA.out.symm.trans (bestA_zero hk))
    clear hk
    go_enter Try.func24, Try.ntmps24
    go_upto_region 1 with fail
    rw [HW.out]
    obtain ⟨e0, e1, e2, e3, e4, e5⟩ := KR.out
    go_wp2_with fail
    refine bodyPost_ret (v := .tuple #[curV none 0 0 0 0, .int .i64 2]) (by simp [results, Try.results24, go_sem, e0, e1, e2, e3, e4, e5]) rfl ?_
    rw [HZ.out]; exact GivesCE.postBad (b := w.heap.size) HB.out (Nat.le_refl _) 2
  have h0i : ¬ (K : Int) = 0 := by omega
  have h0b : ((K : Int) == 0) = false := by simpa using h0
  by_cases h20 : 20 < K
  · have HZ := Lib.hid (HA.out.symm.trans (bestA_long (by omega)))
    have h20i : (20 : Int) < (K : Int) := by omega
    clear hk
    go_enter Try.func24, Try.ntmps24
    go_upto_region 1 with fail
    rw [HW.out]
    obtain ⟨e0, e1, e2, e3, e4, e5⟩ := KR.out
    go_wp2_with fail
    refine bodyPost_ret (v := .tuple #[curV none 0 0 0 0, .int .i64 3]) (by simp [results, Try.results24, go_sem, e0, e1, e2, e3, e4, e5]) rfl ?_
    rw [HZ.out]; exact GivesCE.postBad (b := w.heap.size) HB.out (Nat.le_refl _) 3
  have h20i : ¬ (20 : Int) < (K : Int) := by omega
  cases hbad : badL bs with
  | true =>
    have HZ := Lib.hid (HA.out.symm.trans (bestA_bad (by omega) (by omega) hbad))
    have HBD := Lib.hid hbad
    clear hbad hk
    go_enter Try.func24, Try.ntmps24
    go_upto_region 1 with fail
    rw [HW.out]
    go_wp2_with fail
    refine (svcontainsC B off K cap bs HK.out hK true HBD.out _ HL.out).mono ?_
    rintro e u1 ⟨rfl, hb⟩
    have HB1 := Lib.hid (HB.out.trans (hb.mono HB.out.size))
    have KR1 := Lib.hid (KR.out.below hb)
    clear hb
    obtain ⟨e0, e1, e2, e3, e4, e5⟩ := KR1.out
    go_wp2_with fail
    refine bodyPost_ret (v := .tuple #[curV none 0 0 0 0, .int .i64 2]) (by simp [results, Try.results24, go_sem, e0, e1, e2, e3, e4, e5]) rfl ?_
    rw [HZ.out]; exact GivesCE.postBad (b := w.heap.size) HB1.out (Nat.le_refl _) 2
  | false =>
    have HBD := Lib.hid hbad
    have hmk := make_rowK K hK
    have hKn : (K : Int) < 1001 := by omega
    clear hbad hk
    go_enter Try.func24, Try.ntmps24
    go_upto_region 1 with fail
    rw [HW.out]
    clear HW
    go_wp2_with fail
    refine (svcontainsC B off K cap bs HK.out hK false HBD.out _ HL.out).mono ?_
    rintro e u1 ⟨rfl, hb⟩
    have HL1 := Lib.hid (HL.out.under hb)
    have KR1 := Lib.hid (KR.out.below hb)
    have HB1 := Lib.hid (HB.out.trans (hb.mono HB.out.size))
    clear hb
    obtain ⟨V0, hV0⟩ := Bst.start (K := K) KR1.out HB1.out bs 38
    obtain ⟨u2, hw⟩ : ∃ w', u1.alloc (.cells (madeCells #[.slice none 0 0, .int .i64 0, .int .i64 0] (K * 3)) 38) = w' := ⟨_, rfl⟩
    have hz : Below u1.heap.size u1 u2 := by rw [← hw]; exact below_box _
    rw [hw] at hV0
    have S0 := Lib.hid hV0
    have HL2 := Lib.hid (HL1.out.under hz)
    have HBLB := Lib.hid (show B ≠ u1.heap.size by
      obtain ⟨b, hb⟩ : ∃ b, bs[0]? = some b := ⟨_, List.getElem?_eq_getElem (by have := HK.out; omega)⟩
      have h1 : B < u1.heap.size := lt_of_cell (HL1.out.at0 hb).1
      omega)
    have HW := Lib.hid hw
    clear hw hz hV0
    go_upto_region 8 with fail
    try rw [HW.out]
    obtain ⟨LB, hL⟩ : ∃ L, u1.heap.size = L := ⟨_, rfl⟩
    rw [hL] at S0 HBLB
    try rw [hL]
    clear HW hL hmk
    go_wp2_with fail
    go_loopw [25] (fun s25 wx => ∃ (k : Nat) (V : Nat → Nat → Value), s25 = .int .i64 k ∧ k ≤ K ∧ Hid (Bst w LB K k bs V wx) ∧ Hid (RowC wx B off bs)) (fun s25 _ => K - (intOf s25).toNat)
    case atStart => exact ⟨0, V0, by go_num, Nat.zero_le _, S0, HL2⟩
    case round =>
      obtain ⟨k, V, rfl, hk, HS, HLX⟩ := hrel
      obtain ⟨wk, rfl⟩ : ∃ u : World, u = wr := ⟨_, rfl⟩
      by_cases hlt : k < K
      · obtain ⟨b, hb⟩ : ∃ b, bs[k]? = some b := ⟨_, List.getElem?_eq_getElem (by have := HK.out; omega)⟩
        have HBK := Lib.hid hb
        have hki : (k : Int) < (K : Int) := by omega
        obtain ⟨c0, c1, c2, c3⟩ := HLX.out.at0 hb
        obtain ⟨w2, hw⟩ : ∃ w', wk.alloc (.cells #[.int .i64 b.bn, .int .i64 b.bd, .int .i64 b.rn, .int .i64 b.rd] 25) = w' := ⟨_, rfl⟩
        have hz : Below wk.heap.size wk w2 := by rw [← hw]; exact below_box _
        have S2 := Lib.hid (HS.out.call hz)
        have XB := Lib.hid (show Bk4 w2 wk.heap.size b.bn b.bd b.rn b.rd by rw [← hw]; exact Bk4.new _ _ _ _ _ _)
        have HL3 := Lib.hid (HLX.out.under hz)
        have HW := Lib.hid hw
        clear hb hw hz HS HLX
        go_upto_region 11 with fail
        try rw [HW.out]
        obtain ⟨G, hG⟩ : ∃ B, wk.heap.size = B := ⟨_, rfl⟩
        rw [hG] at XB
        try rw [hG]
        clear HW hG c0 c1 c2 c3
        obtain ⟨s, hs⟩ : ∃ s, pacA b = s := ⟨_, rfl⟩
        have HSE := Lib.hid (show ∀ u, Calls Try.prog 96 #[bucketV b.bn b.bd b.rn b.rd] u (GivesCE s.zs s.p s.inc s.c u) from fun u => by rw [← hs]; exact sent_rs (badL_ok HBD.out HBK.out) u)
        have HPS := Lib.hid hs
        clear hs
        obtain ⟨d0, d1, d2, d3⟩ := XB.out
        go_wp2_with fail
        clear d0 d1 d2 d3
        refine (HSE.out _).mono ?_
        rintro e w3 ⟨a3, n3, cap3, rfl, hb, hr3, hx3⟩
        obtain ⟨w4, hw⟩ : ∃ w', w3.alloc (.cells #[.slice a3 n3 cap3, .int .i64 s.p, .int .i64 s.inc] 38) = w' := ⟨_, rfl⟩
        have hz : Below w2.heap.size w2 w4 := by rw [← hw]; exact hb.trans ((below_box _).mono hb.size)
        have S4 := Lib.hid (S2.out.call hz)
        have HL4 := Lib.hid (HL3.out.under hz)
        have XC := Lib.hid (show Cur3 w4 w3.heap.size (.slice a3 n3 cap3) (.int .i64 s.p) (.int .i64 s.inc) by rw [← hw]; exact Cur3.new _ _ _ _ _)
        have XR := Lib.hid (show RowZ w4 a3 n3 cap3 s.zs by rw [← hw]; exact RowZ.under hr3 (below_box _))
        have hlb : LB < w2.heap.size := lt_of_cell (S2.out.cells k 0 hlt (by omega)).1
        have XF := Lib.hid (show ∀ x, a3 = some x → w.heap.size + 1 ≤ x.block ∧ x.block ≠ LB from fun x hx => by
          have h1 := hx3 x hx
          have h2 := S2.out.lt
          constructor <;> omega)
        have HW := Lib.hid hw
        clear hb hw hz hr3 hx3 hlb
        go_upto_region 12 with fail
        try rw [HW.out]
        obtain ⟨C, hC⟩ : ∃ B, w3.heap.size = B := ⟨_, rfl⟩
        rw [hC] at XC
        try rw [hC]
        clear HW hC
        by_cases hc : s.c = 0
        · have ec : (s.c != 0) = false := by simpa using hc
          have ec2 : (s.c == 0) = true := by simpa using hc
          obtain ⟨V', hV'⟩ := S4.out.step hlt HBK.out (by rw [HPS.out]; exact hc) (by rw [HPS.out]; exact XR.out) XF.out
          rw [HPS.out] at hV'
          obtain ⟨w5, hw⟩ : ∃ w', (((w4.setCell ⟨LB, k * 3, none⟩ (.slice a3 n3 cap3)).setCell ⟨LB, k * 3 + 1, none⟩ (.int .i64 s.p)).setCell ⟨LB, k * 3 + 2, none⟩ (.int .i64 s.inc)) = w' := ⟨_, rfl⟩
          have HL5 := Lib.hid (show RowC w5 B off bs by rw [← hw]; exact ((HL4.out.other HBLB.out _ _).other HBLB.out _ _).other HBLB.out _ _)
          rw [hw] at hV'
          have S5 := Lib.hid hV'
          have HW := Lib.hid hw
          obtain ⟨y0, z0⟩ := S4.out.cells k 0 hlt (by omega)
          obtain ⟨y1, z1⟩ := S4.out.cells k 1 hlt (by omega)
          obtain ⟨y2, z2⟩ := S4.out.cells k 2 hlt (by omega)
          rw [Nat.add_zero] at y0 z0
          obtain ⟨d0, d1, d2, d3, d4, d5⟩ := XC.out
          clear hw hV' hc
          go_upto_region 15 with fail
          try rw [HW.out]
          clear HW y0 y1 y2 z0 z1 z2 d0 d1 d2 d3 d4 d5
          go_wp2_with fail
          go_roundw
          case rel => exact ⟨k + 1, V', by go_num, by omega, S5, HL5⟩
          case measure => simp [intOf]; omega
        · have ec : (s.c != 0) = true := by simpa using hc
          have ec2 : (s.c == 0) = false := by simpa using hc
          have HLI := Lib.hid (show s = Rs.lim by rw [← HPS.out]; exact (pacA_is b).ok.of (by rw [HPS.out]; exact hc))
          have HZ := Lib.hid (HA.out.symm.trans (bestA_lim (by have := HK.out; omega) (by have := HK.out; omega) HBD.out HBK.out (by rw [HPS.out]; exact hc)))
          have HC3 := Lib.hid (show s.c = 3 by rw [HLI.out]; rfl)
          obtain ⟨e0, e1, e2, e3, e4, e5⟩ := S4.out.res
          clear hc
          go_wp2_with fail
          refine bodyPost_ret (v := .tuple #[curV none 0 0 0 0, .int .i64 s.c]) (by simp [results, Try.results24, go_sem, e0, e1, e2, e3, e4, e5]) rfl ?_
          rw [HZ.out, HC3.out]; exact GivesCE.postBad (b := w.heap.size) S4.out.below (Nat.le_refl _) 3
      · obtain rfl : k = K := by omega
        have HAC := Lib.hid (show ∀ (i : Nat) (b : Bkt), bs[i]? = some b → (pacA b).c = 0 from fun i b hb => (HS.out.fill i b (by have := (List.getElem?_eq_some_iff.1 hb).1; have := HK.out; omega) hb).1)
        have HZ := Lib.hid (HA.out.symm.trans (bestA_fold (by have := HK.out; omega) (by have := HK.out; omega) HBD.out HAC.out))
        have HFO := Lib.hid (foldedC_any (w.heap.size + 1) LB k k (bs.map pacA) (allC_map HAC.out) (by rw [List.length_map]; exact HK.out) (by omega) hK (Nat.le_refl _) wk (by have := HS.out.lt; have := lt_of_cell (HS.out.cells 0 0 (by omega) (by omega)).1; have h3 : LB < wk.heap.size := this; omega) (HS.out.list HK.out))
        have HZ2 := Lib.hid (show ans = foldM (bs.map pacA) ((bs.map pacA).length - 1) by rw [HZ.out, List.length_map])
        go_wp2_with fail
        refine HFO.out.mono ?_
        rw [← HZ2.out]
        rintro e u5 ⟨a, n, cap', rfl, hb, hr, hx⟩
        have S5 := Lib.hid (HS.out.call hb)
        have HQ := Lib.hid (show GivesCE ans.zs ans.p ans.inc ans.c w (.returned (.tuple #[curV a n cap' ans.p ans.inc, .int .i64 ans.c])) (((u5.setCell ⟨w.heap.size, 0, none⟩ (.slice a n cap')).setCell ⟨w.heap.size, 1, none⟩ (.int .i64 ans.p)).setCell ⟨w.heap.size, 2, none⟩ (.int .i64 ans.inc)) from by
          have hne : ∀ x, a = some x → 1 ≤ n → x.block ≠ w.heap.size := fun x h1 _ => by have := hx x h1; omega
          exact ⟨a, n, cap', rfl, below_set3 S5.out.below (Nat.le_refl _) _ _ _, ((hr.store hne _ _).store hne _ _).store hne _ _, fun x h1 => by have := hx x h1; omega⟩)
        obtain ⟨e0, e1, e2, e3, e4, e5⟩ := S5.out.res
        clear hb hr hx
        go_wp2_with fail
        exact bodyPost_ret (v := .tuple #[curV a n cap' ans.p ans.inc, .int .i64 ans.c]) (by simp [results, Try.results24, go_sem, e0, e1, e2, e3, e4, e5]) rfl HQ.out

end Go.Proofs.Ytjipmkgnndldpaa
