/- Least of the document. By the verifier's side. -/
import Derived.Test.YtjipmkgnndldpaaFBkO
namespace Go.Proofs.Ytjipmkgnndldpaa
open Go.RowKit
set_option linter.unusedSimpArgs false
set_option linter.unusedVariables false

theorem rmin_rs {r s : Rs} (hr : r.ok) (hs : s.ok) (h0 : r.c = 0) (h1 : s.c = 0) (a1 : Option Addr) (n1 cap1 : Nat) (a2 : Option Addr) (n2 cap2 : Nat) (w : World) (k1 : RowZ w a1 n1 cap1 r.zs) (k2 : RowZ w a2 n2 cap2 s.zs) :
    Calls Try.prog 48 #[curV a1 n1 cap1 r.p r.inc, curV a2 n2 cap2 s.p s.inc] w (GivesCE (minA r s).zs (minA r s).p (minA r s).inc (minA r s).c w) := by
  rcases hr with ⟨_, p, hp, g1⟩ | ⟨h, _⟩
  · rcases hs with ⟨_, q, hq, g2⟩ | ⟨h, _⟩
    · rw [hp, hq]
      exact rmin_ce g1 g2 (minA_is r s p q hp hq g1 g2) w k1 k2
    · exact absurd h1 h
  · exact absurd h0 h
theorem foldA_stop {bs : List Bkt} {k : Nat} (h : ¬ (foldA bs k).c = 0) : ∀ m, k ≤ m → foldA bs m = foldA bs k
  | 0, hm => by obtain rfl : k = 0 := by omega
                rfl
  | m + 1, hm => by
    by_cases he : k = m + 1
    · rw [he]
    · have ih := foldA_stop h m (by omega)
      show nextA (foldA bs m) _ = _
      rw [ih]; exact nextA_stop h
theorem BLs.store {w u : World} {L q : Nat} {r : Rs} {a : Option Addr} {n cap : Nat} (h : BLs w u L r a n cap) (h1 : w.heap.size < q) (h2 : ¬ q = L) (h3 : ∀ x, a = some x → 1 ≤ n → x.block ≠ q) (i : Nat) (v : Value) : BLs w (u.setCell ⟨q, i, none⟩ v) L r a n cap :=
  ⟨h.res.other (by omega) _ _, h.box.other (by omega) _ _, h.row.store h3 _ _, h.far, h.lt, h.below.setCell (p := ⟨q, i, none⟩) (by show w.heap.size ≤ q; omega) _⟩

end Go.Proofs.Ytjipmkgnndldpaa

namespace Go.Proofs.Ytjipmkgnndldpaa
open Go.RowKit
set_option linter.unusedSimpArgs false
set_option linter.unusedVariables false

/-- A list of buckets, at an address. -/
def RowC (u : World) (B off : Nat) (bs : List Bkt) : Prop :=
  ∀ i b, bs[i]? = some b → u.cell? ⟨B, off + i * 4, none⟩ = some (.int .i64 b.bn) ∧ u.cell? ⟨B, off + i * 4 + 1, none⟩ = some (.int .i64 b.bd) ∧ u.cell? ⟨B, off + i * 4 + 2, none⟩ = some (.int .i64 b.rn) ∧ u.cell? ⟨B, off + i * 4 + 3, none⟩ = some (.int .i64 b.rd)
section
variable {u v : World} {B off b : Nat} {bs : List Bkt}
theorem RowC.at0 (h : RowC u B off bs) {i : Nat} {b : Bkt} (hc : bs[i]? = some b) :
    u.cell? ⟨B, off + i * 4, none⟩ = some (.int .i64 b.bn) ∧ u.cell? ⟨B, off + i * 4 + 1, none⟩ = some (.int .i64 b.bd) ∧ u.cell? ⟨B, off + i * 4 + 2, none⟩ = some (.int .i64 b.rn) ∧ u.cell? ⟨B, off + i * 4 + 3, none⟩ = some (.int .i64 b.rd) := h i b hc
theorem RowC.of_block (h : RowC u B off bs) (hb : B < u.heap.size → v.heap[B]? = u.heap[B]?) : RowC v B off bs := fun i c hc => by
  obtain ⟨h1, h2, h3, h4⟩ := h i c hc
  have hb' := hb (lt_of_cell h1)
  have hs : ∀ o, v.cell? ⟨B, o, none⟩ = u.cell? ⟨B, o, none⟩ := fun o => World.cell?_of_block (w := u) (a := ⟨B, o, none⟩) hb'
  exact ⟨(hs _).trans h1, (hs _).trans h2, (hs _).trans h3, (hs _).trans h4⟩
theorem RowC.under (h : RowC u B off bs) (hb : Below u.heap.size u v) : RowC v B off bs := fun i c hc => by
  obtain ⟨h1, h2, h3, h4⟩ := h i c hc
  exact ⟨(hb.cell (lt_of_cell h1)).trans h1, (hb.cell (lt_of_cell h2)).trans h2, (hb.cell (lt_of_cell h3)).trans h3, (hb.cell (lt_of_cell h4)).trans h4⟩
theorem RowC.apart (h : RowC u B off bs) (ha : Apart b u v) (hB : B ≠ b) : RowC v B off bs := h.of_block fun hl => ha.block _ hl hB
theorem RowC.other {q : Nat} (h : RowC u B off bs) (hq : B ≠ q) (i : Nat) (x : Value) : RowC (u.setCell ⟨q, i, none⟩ x) B off bs := h.of_block fun _ => Below.heap_setCell _ _ _ _ hq
end

set_option maxHeartbeats 800000 in
theorem leastC_nil (A : Option Addr) (cap : Nat) (w : World) : Calls Try.prog 86 #[.slice A 0 cap] w (GivesCE (bleastA []).zs (bleastA []).p (bleastA []).inc (bleastA []).c w) := by
  rw [bleastA_zero (bs := []) rfl]
  have KR := Lib.hid (Cur3.new w (.slice none 0 0) (.int .i64 0) (.int .i64 0) 38)
  have HB := Lib.hid (below_box (w := w) (.cells #[.slice none 0 0, .int .i64 0, .int .i64 0] 38))
  go_enter Try.func86, Try.ntmps86
  go_upto_region 1 with fail
  generalize w.alloc (.cells #[.slice none 0 0, .int .i64 0, .int .i64 0] 38) = W at KR HB ⊢
  obtain ⟨e0, e1, e2, e3, e4, e5⟩ := KR.out
  go_wp2_with fail
  exact bodyPost_ret (v := .tuple #[curV none 0 0 0 0, .int .i64 2]) (by simp [results, Try.results86, go_sem, e0, e1, e2]) rfl (GivesCE.postBad (b := w.heap.size) HB.out (Nat.le_refl _) 2)

set_option maxHeartbeats 800000 in
theorem rleastC_nil (A : Option Addr) (cap : Nat) (w : World) : Calls Try.prog 87 #[.slice A 0 cap] w (GivesCE (bleastA []).zs (bleastA []).p (bleastA []).inc (bleastA []).c w) := by
  rw [bleastA_zero (bs := []) rfl]
  have KR := Lib.hid (Cur3.new w (.slice none 0 0) (.int .i64 0) (.int .i64 0) 38)
  have HB := Lib.hid (below_box (w := w) (.cells #[.slice none 0 0, .int .i64 0, .int .i64 0] 38))
  go_enter Try.func87, Try.ntmps87
  go_upto_region 1 with fail
  generalize w.alloc (.cells #[.slice none 0 0, .int .i64 0, .int .i64 0] 38) = W at KR HB ⊢
  obtain ⟨e0, e1, e2, e3, e4, e5⟩ := KR.out
  go_wp2_with fail
  exact bodyPost_ret (v := .tuple #[curV none 0 0 0 0, .int .i64 2]) (by simp [results, Try.results87, go_sem, e0, e1, e2]) rfl (GivesCE.postBad (b := w.heap.size) HB.out (Nat.le_refl _) 2)

set_option maxHeartbeats 800000 in
theorem indexFaultyC (B off K cap : Nat) (bs : List Bkt) (hk : bs.length = K) (hK : K ≤ 1000) (w : World) (h : RowC w B off bs) :
    Calls Try.prog 263 #[.slice (some ⟨B, off, none⟩) K cap, .func (.func 114) #[] #[]] w fun e w' => ∃ r : Int, -1 ≤ r ∧ r ≤ 1000 ∧ decide (0 ≤ r) = badL bs ∧ e = .returned (.int .i64 r) ∧ Below w.heap.size w w' := by
  have H := Lib.hid h
  have HK := Lib.hid hk
  clear h hk
  go_enter Try.func263, Try.ntmps263
  go_wp2_with fail
  go_loopw [8] (fun vi wx => ∃ k : Nat, vi = .int .i64 k ∧ k ≤ K ∧ Hid (∀ (i : Nat) (b : Bkt), i < k → bs[i]? = some b → b.ok = true) ∧ Hid (Below w.heap.size w wx)) (fun vi _ => K - (intOf vi).toNat)
  case atStart => exact ⟨0, by go_num, Nat.zero_le _, fun i b hi => absurd hi (Nat.not_lt_zero _), Below.refl _ _⟩
  case round =>
    obtain ⟨k, rfl, hk, hall, HW⟩ := hrel
    obtain ⟨wk, rfl⟩ : ∃ u : World, u = wr := ⟨_, rfl⟩
    by_cases hlt : k < K
    · obtain ⟨b, hc⟩ : ∃ b, bs[k]? = some b := ⟨_, List.getElem?_eq_getElem (by rw [HK.out]; exact hlt)⟩
      obtain ⟨c0, c1, c2, c3⟩ := (H.out.under HW.out).at0 hc
      obtain ⟨ok, hok⟩ : ∃ o, b.ok = o := ⟨_, rfl⟩
      have HC := Lib.hid (And.intro hc hok)
      have hlI : (k : Int) < (K : Int) := by omega
      clear hc hok
      go_wp2_with fail
      clear c0 c1 c2 c3
      refine (faulty_any b.bn b.bd b.rn b.rd ok HC.out.2 _).mono ?_
      rintro e w1 ⟨rfl, hb⟩
      have HW1 := Lib.hid (HW.out.trans (hb.mono HW.out.size))
      clear hb
      cases ok with
      | false =>
        go_wp2_with fail
        go_ret
        exact ⟨k, by omega, by omega, by rw [badL_of HC.out.1 HC.out.2]; simp, rfl, HW1.out⟩
      | true =>
        have hall2 := Lib.hid (show ∀ i c, i < k + 1 → bs[i]? = some c → c.ok = true from fun i c hi hc => by
          by_cases he : i = k
          · subst he; rw [HC.out.1] at hc; cases hc; exact HC.out.2
          · exact hall.out i c (by omega) hc)
        go_wp2_with fail
        go_roundw
        case rel => exact ⟨k + 1, by go_num, by omega, hall2, HW1⟩
        case measure => simp [intOf]; omega
    · obtain rfl : k = K := by omega
      go_wp2_with fail
      go_ret
      exact ⟨-1, by omega, by omega, by rw [badL_not (fun i b hb => hall.out i b (by have := (List.getElem?_eq_some_iff.1 hb).1; have := HK.out; omega) hb)]; simp, rfl, HW.out⟩

set_option maxHeartbeats 400000 in
theorem containsFaultyC (B off K cap : Nat) (bs : List Bkt) (hk : bs.length = K) (hK : K ≤ 1000) (c : Bool) (hc : badL bs = c) (w : World) (h : RowC w B off bs) :
    Calls Try.prog 186 #[.slice (some ⟨B, off, none⟩) K cap, .func (.func 114) #[] #[]] w (Says (.bool c) w) := by
  have H := Lib.hid h
  have HB := Lib.hid (And.intro hc hk)
  clear h hc hk
  go_enter Try.func186, Try.ntmps186
  go_wp2_with fail
  refine (indexFaultyC B off K cap bs HB.out.2 hK _ H.out).mono ?_
  rintro e w1 ⟨r, h1, h2, h3, rfl, hb⟩
  rw [HB.out.1] at h3
  subst h3
  have HW := Lib.hid hb
  clear hb
  go_wp2_with fail
  go_ret
  exact ⟨rfl, HW.out⟩

set_option maxRecDepth 100000 in
set_option maxHeartbeats 3200000 in
theorem leastC (B off K cap : Nat) (bs : List Bkt) (hk : bs.length = K) (hK : K ≤ 1000) (hcap : K ≤ cap) (w : World) (h : RowC w B off bs) :
    Calls Try.prog 86 #[.slice (some ⟨B, off, none⟩) K cap] w (GivesCE (bleastA bs).zs (bleastA bs).p (bleastA bs).inc (bleastA bs).c w) := by
  have KR := Lib.hid (Cur3.new w (.slice none 0 0) (.int .i64 0) (.int .i64 0) 38)
  have hB := below_box (w := w) (.cells #[.slice none 0 0, .int .i64 0, .int .i64 0] 38)
  have HL := Lib.hid (h.under hB)
  have HB := Lib.hid hB
  have HK := Lib.hid hk
  clear h hB
  obtain ⟨ans, hans⟩ : ∃ r, bleastA bs = r := ⟨_, rfl⟩
  rw [hans]
  have HA := Lib.hid hans
  clear hans
  obtain ⟨W, hW⟩ : ∃ W, w.alloc (.cells #[.slice none 0 0, .int .i64 0, .int .i64 0] 38) = W := ⟨_, rfl⟩
  rw [hW] at KR HL HB
  have HW := Lib.hid hW
  clear hW
  by_cases h0 : K = 0
  · subst h0
    have HZ := Lib.hid (HA.out.symm.trans (bleastA_zero hk))
    clear hk
    go_enter Try.func86, Try.ntmps86
    go_upto_region 1 with fail
    rw [HW.out]
    obtain ⟨e0, e1, e2, e3, e4, e5⟩ := KR.out
    go_wp2_with fail
    refine bodyPost_ret (v := .tuple #[curV none 0 0 0 0, .int .i64 2]) (by simp [results, Try.results86, go_sem, e0, e1, e2]) rfl ?_
    rw [HZ.out]; exact GivesCE.postBad (b := w.heap.size) HB.out (Nat.le_refl _) 2
  have h0i : ¬ (K : Int) = 0 := by omega
  have h0b : ((K : Int) == 0) = false := by simpa using h0
  by_cases h20 : 20 < K
  · have HZ := Lib.hid (HA.out.symm.trans (bleastA_long (by omega)))
    have h20i : (20 : Int) < (K : Int) := by omega
    clear hk
    go_enter Try.func86, Try.ntmps86
    go_upto_region 1 with fail
    rw [HW.out]
    obtain ⟨e0, e1, e2, e3, e4, e5⟩ := KR.out
    go_wp2_with fail
    refine bodyPost_ret (v := .tuple #[curV none 0 0 0 0, .int .i64 3]) (by simp [results, Try.results86, go_sem, e0, e1, e2]) rfl ?_
    rw [HZ.out]; exact GivesCE.postBad (b := w.heap.size) HB.out (Nat.le_refl _) 3
  have h20i : ¬ (20 : Int) < (K : Int) := by omega
  cases hbad : badL bs with
  | true =>
    have HZ := Lib.hid (HA.out.symm.trans (bleastA_bad (by omega) (by omega) hbad))
    have HBD := Lib.hid hbad
    clear hbad hk
    go_enter Try.func86, Try.ntmps86
    go_upto_region 1 with fail
    rw [HW.out]
    go_wp2_with fail
    refine (containsFaultyC B off K cap bs HK.out hK true HBD.out _ HL.out).mono ?_
    rintro e u1 ⟨rfl, hb⟩
    have HB1 := Lib.hid (HB.out.trans (hb.mono HB.out.size))
    obtain ⟨e0, e1, e2, e3, e4, e5⟩ := KR.out.below hb
    clear hb
    go_wp2_with fail
    refine bodyPost_ret (v := .tuple #[curV none 0 0 0 0, .int .i64 2]) (by simp [results, Try.results86, go_sem, e0, e1, e2]) rfl ?_
    rw [HZ.out]; exact GivesCE.postBad (b := w.heap.size) HB1.out (Nat.le_refl _) 2
  | false =>
    have HZ := Lib.hid (HA.out.symm.trans (bleastA_fold (by omega) (by omega) hbad))
    have HBD := Lib.hid hbad
    obtain ⟨b0, hb0⟩ : ∃ b, bs[0]? = some b := ⟨_, List.getElem?_eq_getElem (by omega)⟩
    have HB0 := Lib.hid hb0
    have HF0 := Lib.hid (show foldA bs 0 = pasA b0 by show pasA (bs.getD 0 default) = _; rw [List.getD, hb0]; rfl)
    clear hbad hb0
    obtain ⟨r0, hr0⟩ : ∃ r, foldA bs 0 = r := ⟨_, rfl⟩
    have HR0 := Lib.hid hr0
    have HP0 := Lib.hid (show ∀ u, Calls Try.prog 115 #[bucketV b0.bn b0.bd b0.rn b0.rd] u (GivesCE r0.zs r0.p r0.inc r0.c u) from fun u => by rw [← hr0, HF0.out]; exact passed_rs (badL_ok HBD.out HB0.out) u)
    clear hr0 hk
    go_enter Try.func86, Try.ntmps86
    go_upto_region 1 with fail
    rw [HW.out]
    clear HW
    go_wp2_with fail
    refine (containsFaultyC B off K cap bs HK.out hK false HBD.out _ HL.out).mono ?_
    rintro e u1 ⟨rfl, hb⟩
    have HL1 := Lib.hid (HL.out.under hb)
    have KR1 := Lib.hid (KR.out.below hb)
    have HB1 := Lib.hid (HB.out.trans (hb.mono HB.out.size))
    clear hb
    obtain ⟨c0, c1, c2, c3⟩ := HL1.out.at0 HB0.out
    simp only [Nat.zero_mul, Nat.add_zero] at c0 c1 c2 c3
    go_wp2_with fail
    clear c0 c1 c2 c3
    refine (HP0.out _).mono ?_
    rintro e u2 ⟨a1, n1, cap1, rfl, hb, hr1, hx1⟩
    obtain ⟨u3, hw⟩ : ∃ w', u2.alloc (.cells #[.slice a1 n1 cap1, .int .i64 r0.p, .int .i64 r0.inc] 38) = w' := ⟨_, rfl⟩
    have hz : Below u1.heap.size u1 u3 := by rw [← hw]; exact hb.trans ((below_box _).mono hb.size)
    have hl1 := KR1.out.lt
    have S0 := Lib.hid (show BLs w u3 u2.heap.size r0 a1 n1 cap1 from ⟨KR1.out.below hz, by rw [← hw]; exact Cur3.new _ _ _ _ _, by rw [← hw]; exact hr1.under (below_box _), fun x h1 => ⟨by have := hx1 x h1; omega, fun hn => ⟨by have := hr1.far x h1 hn; omega, by have := hx1 x h1; omega⟩⟩, by have := hb.size; omega, HB1.out.trans (hz.mono HB1.out.size)⟩)
    have HL3 := Lib.hid (HL1.out.under hz)
    have HSZ := Lib.hid hb.size
    have HW := Lib.hid hw
    clear hb hr1 hx1 hw hz hl1 KR1 HB1
    go_upto_region 8 with fail
    try rw [HW.out]
    have hBL : B ≠ u2.heap.size := by have := lt_of_cell (HL1.out.at0 HB0.out).1; have h2 : B < u1.heap.size := this; have h3 := HSZ.out; omega
    obtain ⟨L, hLe⟩ : ∃ B, u2.heap.size = B := ⟨_, rfl⟩
    rw [hLe] at S0 hBL
    have HBL := Lib.hid hBL
    clear hBL
    try rw [hLe]
    clear HW hLe
    obtain ⟨M, hM⟩ : ∃ M : Nat, K = M + 1 := ⟨K - 1, by omega⟩
    have hMi : (K : Int) - 1 = (M : Int) := by omega
    have hMn : K - 1 = M := by omega
    have hM2 : 1 ≤ K := by omega
    have HMM := Lib.hid hM
    clear hM
    by_cases hcp : cap = 1
    · subst hcp
      obtain rfl : M = 0 := by omega
      go_wp2_with fail
      go_loopw [29, 5] (fun s29 s5 wx => ∃ (k : Nat) (r : Rs) (a : Option Addr) (n cap : Nat), s29 = .int .i64 k ∧ s5 = .int .i64 r.c ∧ k ≤ 0 ∧ Hid (foldA bs k = r) ∧ Hid (BLs w wx L r a n cap) ∧ Hid (RowC wx B off bs)) (fun s29 _ _ => 0 - (intOf s29).toNat)
      case atStart => exact ⟨0, r0, a1, n1, cap1, by go_num, rfl, Nat.zero_le _, HR0, S0, HL3⟩
      case round =>
        obtain ⟨k, r, a, n, cap', rfl, rfl, hk, HF, HS, HB⟩ := hrel
        obtain ⟨wk, rfl⟩ : ∃ u : World, u = wr := ⟨_, rfl⟩
        by_cases hlt : k < 0
        · exact absurd hlt (by omega)

        · obtain rfl : k = 0 := by omega
          have HZ2 := Lib.hid (show ans = r by rw [HZ.out, ← HF.out, show bs.length - 1 = 0 from by have := HK.out; have := HMM.out; omega])
          have HP := Lib.hid HS.out.post
          obtain ⟨c0, c1, c2, c3, c4, c5⟩ := HS.out.box
          obtain ⟨e0, e1, e2, e3, e4, e5⟩ := HS.out.res
          have hl1 := HS.out.lt
          have hl2 : ¬ w.heap.size = L := by omega
          have hl3 : ¬ L = w.heap.size := by omega
          go_wp2_with fail
          refine bodyPost_ret (v := .tuple #[curV a n cap' r.p r.inc, .int .i64 r.c]) (by simp [results, Try.results86, go_sem, e0, e1, e2]) rfl ?_
          rw [HZ2.out]; exact HP.out
    · have hcp2 : ¬ cap - 1 = 0 := by omega
      go_wp2_with fail
      go_loopw [29, 5] (fun s29 s5 wx => ∃ (k : Nat) (r : Rs) (a : Option Addr) (n cap : Nat), s29 = .int .i64 k ∧ s5 = .int .i64 r.c ∧ k ≤ M ∧ Hid (foldA bs k = r) ∧ Hid (BLs w wx L r a n cap) ∧ Hid (RowC wx B off bs)) (fun s29 _ _ => M - (intOf s29).toNat)
      case atStart => exact ⟨0, r0, a1, n1, cap1, by go_num, rfl, Nat.zero_le _, HR0, S0, HL3⟩
      case round =>
        obtain ⟨k, r, a, n, cap', rfl, rfl, hk, HF, HS, HB⟩ := hrel
        obtain ⟨wk, rfl⟩ : ∃ u : World, u = wr := ⟨_, rfl⟩
        by_cases hlt : k < M
        · obtain ⟨b, hb⟩ : ∃ b, bs[k + 1]? = some b := ⟨_, List.getElem?_eq_getElem (by have := HK.out; have := HMM.out; omega)⟩
          have HBK := Lib.hid (badL_ok HBD.out hb)
          have HFN := Lib.hid (show foldA bs (k + 1) = nextA r b by show nextA (foldA bs k) (bs.getD (k + 1) default) = _; rw [HF.out, List.getD, hb]; rfl)
          have HRO := Lib.hid (show r.ok by rw [← HF.out]; exact foldA_ok bs k)
          obtain ⟨c0, c1, c2, c3⟩ := HB.out.at0 hb
          rw [show off + (k + 1) * 4 = off + 4 + k * 4 by omega] at c0 c1 c2 c3
          have hki : (k : Int) < (M : Int) := by omega
          obtain ⟨w2, hw⟩ : ∃ w', wk.alloc (.cells #[.int .i64 b.bn, .int .i64 b.bd, .int .i64 b.rn, .int .i64 b.rd] 46) = w' := ⟨_, rfl⟩
          have hz : Below wk.heap.size wk w2 := by rw [← hw]; exact below_box _
          have S2 := Lib.hid (HS.out.call hz)
          have XB := Lib.hid (show Bk4 w2 wk.heap.size b.bn b.bd b.rn b.rd by rw [← hw]; exact Bk4.new _ _ _ _ _ _)
          have HB2 := Lib.hid (HB.out.under hz)
          have hlL : L < wk.heap.size := HS.out.box.lt
          have HW := Lib.hid hw
          clear hb hw hz HB HS
          go_upto_region 11 with fail
          try rw [HW.out]
          obtain ⟨G, hG⟩ : ∃ B, wk.heap.size = B := ⟨_, rfl⟩
          rw [hG] at XB hlL
          try rw [hG]
          clear HW hG c0 c1 c2 c3
          by_cases hc : r.c = 0
          · have ec : (r.c == 0) = true := by rw [hc]; rfl
            obtain ⟨t, ht⟩ : ∃ t, nextA r b = t := ⟨_, rfl⟩
            have HLO := Lib.hid (show ∀ (u : World), RowZ u a n cap' r.zs → Calls Try.prog 187 #[curV a n cap' r.p r.inc, bucketV b.bn b.bd b.rn b.rd] u (GivesCE t.zs t.p t.inc t.c u) from fun u hu => by rw [← ht]; exact lowered_any HRO.out hc HBK.out a n cap' u hu)
            have HFT := Lib.hid (HFN.out.trans ht)
            have hcb : r.c = 0 := hc
            clear ht hc
            obtain ⟨c0, c1, c2, c3, c4, c5⟩ := S2.out.box
            obtain ⟨d0, d1, d2, d3⟩ := XB.out
            go_wp2_with fail
            clear c0 c1 c2 c3 c4 c5 d0 d1 d2 d3
            refine (HLO.out _ S2.out.row).mono ?_
            rintro e w3 ⟨a3, n3, cap3, rfl, hb, hr3, hx3⟩
            have S3 := Lib.hid (S2.out.call hb)
            have hl2 := S2.out.box.lt
            have hl3 := S2.out.res.lt
            obtain ⟨w4, hw⟩ : ∃ w', (((w3.setCell ⟨L, 0, none⟩ (.slice a3 n3 cap3)).setCell ⟨L, 1, none⟩ (.int .i64 t.p)).setCell ⟨L, 2, none⟩ (.int .i64 t.inc)) = w' := ⟨_, rfl⟩
            have S4 := Lib.hid (show BLs w w4 L t a3 n3 cap3 by rw [← hw]; exact S3.out.lay hr3 (fun x h1 => ⟨by have := hx3 x h1; omega, fun _ => ⟨by have := hx3 x h1; omega, by have := hx3 x h1; omega⟩⟩))
            have HB4 := Lib.hid (show RowC w4 B off bs by rw [← hw]; exact (((HB2.out.under hb).other HBL.out _ _).other HBL.out _ _).other HBL.out _ _)
            obtain ⟨c0, c1, c2, c3, c4, c5⟩ := S3.out.box
            have HW := Lib.hid hw
            clear hb hr3 hx3 hw hl2 hl3
            go_upto_region 13 with fail
            try rw [HW.out]
            clear HW c0 c1 c2 c3 c4 c5
            go_wp2_with fail
            go_roundw
            case rel => exact ⟨k + 1, t, a3, n3, cap3, by go_num, rfl, by omega, HFT, S4, HB4⟩
            case measure => simp [intOf]; omega
          · have ec : (r.c == 0) = false := by simpa using hc
            have HFT := Lib.hid (show foldA bs (k + 1) = r from HFN.out.trans (nextA_stop hc))
            clear hc
            go_wp2_with fail
            go_roundw
            case rel => exact ⟨k + 1, r, a, n, cap', by go_num, rfl, by omega, HFT, S2, HB2⟩
            case measure => simp [intOf]; omega

        · obtain rfl : k = M := by omega
          have HZ2 := Lib.hid (show ans = r by rw [HZ.out, ← HF.out, show bs.length - 1 = k from by have := HK.out; have := HMM.out; omega])
          have HP := Lib.hid HS.out.post
          obtain ⟨c0, c1, c2, c3, c4, c5⟩ := HS.out.box
          obtain ⟨e0, e1, e2, e3, e4, e5⟩ := HS.out.res
          have hl1 := HS.out.lt
          have hl2 : ¬ w.heap.size = L := by omega
          have hl3 : ¬ L = w.heap.size := by omega
          go_wp2_with fail
          refine bodyPost_ret (v := .tuple #[curV a n cap' r.p r.inc, .int .i64 r.c]) (by simp [results, Try.results86, go_sem, e0, e1, e2]) rfl ?_
          rw [HZ2.out]; exact HP.out

set_option maxRecDepth 100000 in
set_option maxHeartbeats 3200000 in
theorem rbleastC (B off K cap : Nat) (bs : List Bkt) (hk : bs.length = K) (hK : K ≤ 1000) (hcap : K ≤ cap) (w : World) (h : RowC w B off bs) :
    Calls Try.prog 87 #[.slice (some ⟨B, off, none⟩) K cap] w (GivesCE (bleastA bs).zs (bleastA bs).p (bleastA bs).inc (bleastA bs).c w) := by
  have KR := Lib.hid (Cur3.new w (.slice none 0 0) (.int .i64 0) (.int .i64 0) 38)
  have hB := below_box (w := w) (.cells #[.slice none 0 0, .int .i64 0, .int .i64 0] 38)
  have HL := Lib.hid (h.under hB)
  have HB := Lib.hid hB
  have HK := Lib.hid hk
  clear h hB
  obtain ⟨ans, hans⟩ : ∃ r, bleastA bs = r := ⟨_, rfl⟩
  rw [hans]
  have HA := Lib.hid hans
  clear hans
  obtain ⟨W, hW⟩ : ∃ W, w.alloc (.cells #[.slice none 0 0, .int .i64 0, .int .i64 0] 38) = W := ⟨_, rfl⟩
  rw [hW] at KR HL HB
  have HW := Lib.hid hW
  clear hW
  by_cases h0 : K = 0
  · subst h0
    have HZ := Lib.hid (HA.out.symm.trans (bleastA_zero hk))
    clear hk
    go_enter Try.func87, Try.ntmps87
    go_upto_region 1 with fail
    rw [HW.out]
    obtain ⟨e0, e1, e2, e3, e4, e5⟩ := KR.out
    go_wp2_with fail
    refine bodyPost_ret (v := .tuple #[curV none 0 0 0 0, .int .i64 2]) (by simp [results, Try.results87, go_sem, e0, e1, e2]) rfl ?_
    rw [HZ.out]; exact GivesCE.postBad (b := w.heap.size) HB.out (Nat.le_refl _) 2
  have h0i : ¬ (K : Int) = 0 := by omega
  have h0b : ((K : Int) == 0) = false := by simpa using h0
  by_cases h20 : 20 < K
  · have HZ := Lib.hid (HA.out.symm.trans (bleastA_long (by omega)))
    have h20i : (20 : Int) < (K : Int) := by omega
    clear hk
    go_enter Try.func87, Try.ntmps87
    go_upto_region 1 with fail
    rw [HW.out]
    obtain ⟨e0, e1, e2, e3, e4, e5⟩ := KR.out
    go_wp2_with fail
    refine bodyPost_ret (v := .tuple #[curV none 0 0 0 0, .int .i64 3]) (by simp [results, Try.results87, go_sem, e0, e1, e2]) rfl ?_
    rw [HZ.out]; exact GivesCE.postBad (b := w.heap.size) HB.out (Nat.le_refl _) 3
  have h20i : ¬ (20 : Int) < (K : Int) := by omega
  clear hk
  go_enter Try.func87, Try.ntmps87
  go_upto_region 1 with fail
  rw [HW.out]
  clear HW
  go_wp2_with fail
  go_loopw [4] (fun s wx => ∃ k : Nat, s = .int .i64 k ∧ k ≤ K ∧ Hid (∀ (i : Nat) (b : Bkt), i < k → bs[i]? = some b → b.ok = true) ∧ Hid (Below W.heap.size W wx)) (fun s _ => K - (intOf s).toNat)
  case atStart => exact ⟨0, by go_num, Nat.zero_le _, fun i b hi => absurd hi (Nat.not_lt_zero _), Below.refl _ _⟩
  case round =>
    obtain ⟨k, rfl, hk, hall, HX⟩ := hrel
    obtain ⟨wk, rfl⟩ : ∃ u : World, u = wr := ⟨_, rfl⟩
    by_cases hlt : k < K
    · obtain ⟨b, hc⟩ : ∃ b, bs[k]? = some b := ⟨_, List.getElem?_eq_getElem (by have := HK.out; omega)⟩
      have HLk := Lib.hid (HL.out.under HX.out)
      obtain ⟨c0, c1, c2, c3⟩ := HLk.out.at0 hc
      have hlI : (k : Int) < (K : Int) := by omega
      have HC := Lib.hid hc
      clear hc
      cases hb1 : okB b.bn b.bd with
      | false =>
        have H1 := Lib.hid hb1
        have HZ := Lib.hid (HA.out.symm.trans (bleastA_bad (by have := HK.out; omega) (by have := HK.out; omega) (badL_of HC.out (by unfold Bkt.ok; rw [hb1]; rfl))))
        clear hb1
        go_wp2_with fail
        clear c0 c1 c2 c3
        refine (rgood_any _ _ _ H1.out _).mono ?_
        rintro e u1 ⟨rfl, hb⟩
        have HX1 := Lib.hid (HX.out.trans (hb.mono HX.out.size))
        have HB1 := Lib.hid (HB.out.trans (HX1.out.mono HB.out.size))
        obtain ⟨e0, e1, e2, e3, e4, e5⟩ := KR.out.below HX1.out
        clear hb
        go_wp2_with fail
        refine bodyPost_ret (v := .tuple #[curV none 0 0 0 0, .int .i64 2]) (by simp [results, Try.results87, go_sem, e0, e1, e2]) rfl ?_
        rw [HZ.out]; exact GivesCE.postBad (b := w.heap.size) HB1.out (Nat.le_refl _) 2
      | true =>
        cases hb3 : okB b.rn b.rd with
        | false =>
          have H1 := Lib.hid hb1
          have H3 := Lib.hid hb3
          have HZ := Lib.hid (HA.out.symm.trans (bleastA_bad (by have := HK.out; omega) (by have := HK.out; omega) (badL_of HC.out (by unfold Bkt.ok; rw [hb1, hb3]; rfl))))
          clear hb1 hb3
          go_wp2_with fail
          clear c0 c1 c2 c3
          refine (rgood_any _ _ _ H1.out _).mono ?_
          rintro e u1 ⟨rfl, hb⟩
          have HX1 := Lib.hid (HX.out.trans (hb.mono HX.out.size))
          obtain ⟨c0, c1, c2, c3⟩ := (HLk.out.under hb).at0 HC.out
          clear hb
          go_wp2_with fail
          clear c0 c1 c2 c3
          refine (rgood_any _ _ _ H3.out _).mono ?_
          rintro e u2 ⟨rfl, hb⟩
          have HX2 := Lib.hid (HX1.out.trans (hb.mono HX1.out.size))
          have HB1 := Lib.hid (HB.out.trans (HX2.out.mono HB.out.size))
          obtain ⟨e0, e1, e2, e3, e4, e5⟩ := KR.out.below HX2.out
          clear hb
          go_wp2_with fail
          refine bodyPost_ret (v := .tuple #[curV none 0 0 0 0, .int .i64 2]) (by simp [results, Try.results87, go_sem, e0, e1, e2]) rfl ?_
          rw [HZ.out]; exact GivesCE.postBad (b := w.heap.size) HB1.out (Nat.le_refl _) 2
        | true =>
          have H1 := Lib.hid hb1
          have H3 := Lib.hid hb3
          have hall2 := Lib.hid (show ∀ i c, i < k + 1 → bs[i]? = some c → c.ok = true from fun i c hi hc => by
            by_cases he : i = k
            · subst he; have h9 := HC.out; rw [hc] at h9; cases h9; unfold Bkt.ok; rw [hb1, hb3]; rfl
            · exact hall.out i c (by omega) hc)
          clear hb1 hb3
          go_wp2_with fail
          clear c0 c1 c2 c3
          refine (rgood_any _ _ _ H1.out _).mono ?_
          rintro e u1 ⟨rfl, hb⟩
          have HX1 := Lib.hid (HX.out.trans (hb.mono HX.out.size))
          obtain ⟨c0, c1, c2, c3⟩ := (HLk.out.under hb).at0 HC.out
          clear hb
          go_wp2_with fail
          clear c0 c1 c2 c3
          refine (rgood_any _ _ _ H3.out _).mono ?_
          rintro e u2 ⟨rfl, hb⟩
          have HX2 := Lib.hid (HX1.out.trans (hb.mono HX1.out.size))
          clear hb
          go_wp2_with fail
          go_roundw
          case rel => exact ⟨k + 1, by go_num, by omega, hall2, HX2⟩
          case measure => simp [intOf]; omega
    obtain rfl : k = K := by omega
    have HBD := Lib.hid (show badL bs = false from badL_not (fun i b hb => hall.out i b (by have := (List.getElem?_eq_some_iff.1 hb).1; have := HK.out; omega) hb))
    have HZ := Lib.hid (HA.out.symm.trans (bleastA_fold (by have := HK.out; omega) (by have := HK.out; omega) HBD.out))
    obtain ⟨b0, hb0⟩ : ∃ b, bs[0]? = some b := ⟨_, List.getElem?_eq_getElem (by have := HK.out; omega)⟩
    have HF0 := Lib.hid (show foldA bs 0 = pasA b0 by show pasA (bs.getD 0 default) = _; rw [List.getD, hb0]; rfl)
    obtain ⟨r0, hr0⟩ : ∃ r, foldA bs 0 = r := ⟨_, rfl⟩
    have HR0 := Lib.hid hr0
    have HP0 := Lib.hid (show ∀ u, Calls Try.prog 83 #[bucketV b0.bn b0.bd b0.rn b0.rd] u (GivesCE r0.zs r0.p r0.inc r0.c u) from fun u => by rw [← hr0, HF0.out]; exact rtoken_rs (badL_ok HBD.out hb0) u)
    have HL1 := Lib.hid (HL.out.under HX.out)
    have KR1 := Lib.hid (KR.out.below HX.out)
    have HB1 := Lib.hid (HB.out.trans (HX.out.mono HB.out.size))
    obtain ⟨c0, c1, c2, c3⟩ := HL1.out.at0 hb0
    simp only [Nat.zero_mul, Nat.add_zero] at c0 c1 c2 c3
    clear hb0 hr0 hall HX HL KR HB
    go_wp2_with fail
    clear c0 c1 c2 c3
    refine (HP0.out _).mono ?_
    rintro e u2 ⟨a1, n1, cap1, rfl, hb, hr1, hx1⟩
    obtain ⟨u3, hw⟩ : ∃ w', u2.alloc (.cells #[.slice a1 n1 cap1, .int .i64 r0.p, .int .i64 r0.inc] 38) = w' := ⟨_, rfl⟩
    have hz : Below wk.heap.size wk u3 := by rw [← hw]; exact hb.trans ((below_box _).mono hb.size)
    have hl1 := KR1.out.lt
    have S0 := Lib.hid (show BLs w u3 u2.heap.size r0 a1 n1 cap1 from ⟨KR1.out.below hz, by rw [← hw]; exact Cur3.new _ _ _ _ _, by rw [← hw]; exact hr1.under (below_box _), fun x h1 => ⟨by have := hx1 x h1; omega, fun hn => ⟨by have := hr1.far x h1 hn; omega, by have := hx1 x h1; omega⟩⟩, by have := hb.size; omega, HB1.out.trans (hz.mono HB1.out.size)⟩)
    have HL3 := Lib.hid (HL1.out.under hz)
    have HSZ := Lib.hid hb.size
    have HW := Lib.hid hw
    have hBL : B ≠ u2.heap.size := by have h9 : B < wk.heap.size := by { obtain ⟨b1, hb1⟩ : ∃ b, bs[0]? = some b := ⟨_, List.getElem?_eq_getElem (by have := HK.out; omega)⟩; exact lt_of_cell (HL1.out.at0 hb1).1 }
                                      have h3 := HSZ.out; omega
    clear hb hr1 hx1 hw hz hl1 KR1 HB1
    go_upto_region 11 with fail
    try rw [HW.out]
    obtain ⟨L, hLe⟩ : ∃ B, u2.heap.size = B := ⟨_, rfl⟩
    rw [hLe] at S0 hBL
    have HBL := Lib.hid hBL
    clear hBL
    try rw [hLe]
    clear HW hLe
    go_wp2_with fail
    go_loopw [7, 6] (fun s7 s6 wx => ∃ (q : Nat) (r rb : Rs) (a : Option Addr) (n cap : Nat), s7 = .int .i64 ((q : Int) + 1) ∧ s6 = .int .i64 r.c ∧ q + 1 ≤ k ∧ Hid (foldA bs q = r) ∧ Hid (r.c = 0 → rb = r) ∧ Hid (BLs w wx L rb a n cap) ∧ Hid (RowC wx B off bs)) (fun s7 _ _ => k - (intOf s7).toNat)
    case atStart => exact ⟨0, r0, r0, a1, n1, cap1, by go_num, rfl, by omega, HR0, fun _ => rfl, S0, HL3⟩
    case round =>
      obtain ⟨q, r, rb, a, n, cap', rfl, rfl, hq, HF, HE, HS, HBs⟩ := hrel
      obtain ⟨wq, rfl⟩ : ∃ u : World, u = wr := ⟨_, rfl⟩
      clear S0 HL3
      have HRO := Lib.hid (show r.ok by rw [← HF.out]; exact foldA_ok bs q)
      by_cases hc : r.c = 0
      · have ec : (r.c == 0) = true := by rw [hc]; rfl
        obtain rfl := HE.out hc
        have HC0 := Lib.hid hc
        clear HE hc
        by_cases hlt : q + 1 < k
        · have hlI : (q : Int) + 1 < (k : Int) := by omega
          obtain ⟨b, hb⟩ : ∃ b, bs[q + 1]? = some b := ⟨_, List.getElem?_eq_getElem (by have := HK.out; omega)⟩
          have HBK := Lib.hid (badL_ok HBD.out hb)
          have HBB := Lib.hid hb
          have HFN := Lib.hid (show foldA bs (q + 1) = nextA rb b by show nextA (foldA bs q) (bs.getD (q + 1) default) = _; rw [HF.out, List.getD, hb]; rfl)
          obtain ⟨w2, hw⟩ : ∃ w', wq.alloc (.cells #[.slice none 0 0, .int .i64 0, .int .i64 0] 38) = w' := ⟨_, rfl⟩
          have hz : Below wq.heap.size wq w2 := by rw [← hw]; exact below_box _
          have S2 := Lib.hid (HS.out.call hz)
          have XG := Lib.hid (show Cur3 w2 wq.heap.size (.slice none 0 0) (.int .i64 0) (.int .i64 0) by rw [← hw]; exact Cur3.new _ _ _ _ _)
          have HB2 := Lib.hid (HBs.out.under hz)
          have HGf := Lib.hid (show L < wq.heap.size ∧ w.heap.size < wq.heap.size ∧ B < wq.heap.size ∧ (∀ x, a = some x → 1 ≤ n → x.block ≠ wq.heap.size) from ⟨HS.out.box.lt, HS.out.res.lt, lt_of_cell (HBs.out.at0 hb).1, fun x h1 h2 => by have := HS.out.row.far x h1 h2; omega⟩)
          have HW := Lib.hid hw
          clear hb hw hz HBs HS
          go_upto_region 15 with fail
          try rw [HW.out]
          obtain ⟨G, hG⟩ : ∃ B, wq.heap.size = B := ⟨_, rfl⟩
          rw [hG] at XG HGf
          try rw [hG]
          clear HW hG
          obtain ⟨c0, c1, c2, c3⟩ := HB2.out.at0 HBB.out
          obtain ⟨s, hs⟩ : ∃ s, pasA b = s := ⟨_, rfl⟩
          have HSO := Lib.hid (show s.ok by rw [← hs]; exact (pasA_is b).ok)
          have HTK := Lib.hid (show ∀ u, Calls Try.prog 83 #[bucketV b.bn b.bd b.rn b.rd] u (GivesCE s.zs s.p s.inc s.c u) from fun u => by rw [← hs]; exact rtoken_rs HBK.out u)
          have HPS := Lib.hid hs
          clear hs
          go_wp2_with fail
          clear c0 c1 c2 c3
          refine (HTK.out _).mono ?_
          rintro e w3 ⟨a3, n3, cap3, rfl, hb, hr3, hx3⟩
          obtain ⟨g1, g2, g3, g4⟩ := HGf.out
          have hne : ∀ x, a3 = some x → 1 ≤ n3 → x.block ≠ G := fun x h1 _ => by have := hx3 x h1; have := XG.out.lt; omega
          have S3 := Lib.hid (S2.out.call hb)
          have HB3 := Lib.hid (HB2.out.under hb)
          have XG3 := Lib.hid (XG.out.below hb)
          have hs3 : w2.heap.size ≤ w3.heap.size := hb.size
          obtain ⟨w4, hw⟩ : ∃ w', (((w3.setCell ⟨G, 0, none⟩ (.slice a3 n3 cap3)).setCell ⟨G, 1, none⟩ (.int .i64 s.p)).setCell ⟨G, 2, none⟩ (.int .i64 s.inc)) = w' := ⟨_, rfl⟩
          have S4 := Lib.hid (show BLs w w4 L rb a n cap' by rw [← hw]; exact ((S3.out.store (by omega) (by omega) g4 _ _).store (by omega) (by omega) g4 _ _).store (by omega) (by omega) g4 _ _)
          have HB4 := Lib.hid (show RowC w4 B off bs by rw [← hw]; exact ((HB3.out.other (by omega) _ _).other (by omega) _ _).other (by omega) _ _)
          have XG4 := Lib.hid (show Cur3 w4 G (.slice a3 n3 cap3) (.int .i64 s.p) (.int .i64 s.inc) by rw [← hw]; exact XG3.out.set _ _ _)
          have HR4 := Lib.hid (show RowZ w4 a3 n3 cap3 s.zs by rw [← hw]; exact ((hr3.store hne _ _).store hne _ _).store hne _ _)
          have HX3 := Lib.hid hx3
          have HW := Lib.hid hw
          obtain ⟨d0, d1, d2, d3, d4, d5⟩ := XG3.out
          clear hb hr3 hx3 hw S2 S3 HB2 HB3 XG XG3 hne hs3
          go_upto_region 16 with fail
          try rw [HW.out]
          clear HW d0 d1 d2 d3 d4 d5
          by_cases hc2 : s.c = 0
          · have ec2 : (s.c == 0) = true := by rw [hc2]; rfl
            have HFT := Lib.hid (show foldA bs (q + 1) = minA rb s by rw [HFN.out, nextA_min HC0.out (by rw [HPS.out]; exact hc2), HPS.out])
            have HMN := Lib.hid (rmin_rs HRO.out HSO.out HC0.out hc2 a n cap' a3 n3 cap3 w4 S4.out.row HR4.out)
            clear hc2
            obtain ⟨t, ht⟩ : ∃ t, minA rb s = t := ⟨_, rfl⟩
            rw [ht] at HFT HMN
            clear ht
            obtain ⟨c0, c1, c2, c3, c4, c5⟩ := S4.out.box
            obtain ⟨d0, d1, d2, d3, d4, d5⟩ := XG4.out
            go_wp2_with fail
            clear c0 c1 c2 c3 c4 c5 d0 d1 d2 d3 d4 d5
            refine HMN.out.mono ?_
            rintro e w5 ⟨a4, n4, cap4, rfl, hb, hr4, hx4⟩
            have S5 := Lib.hid (S4.out.call hb)
            have hl2 := S4.out.box.lt
            have hl3 := S4.out.res.lt
            obtain ⟨w6, hw⟩ : ∃ w', (((w5.setCell ⟨L, 0, none⟩ (.slice a4 n4 cap4)).setCell ⟨L, 1, none⟩ (.int .i64 t.p)).setCell ⟨L, 2, none⟩ (.int .i64 t.inc)) = w' := ⟨_, rfl⟩
            have S6 := Lib.hid (show BLs w w6 L t a4 n4 cap4 by rw [← hw]; exact S5.out.lay hr4 (fun x h1 => ⟨by have := hx4 x h1; omega, fun _ => ⟨by have := hx4 x h1; omega, by have := hx4 x h1; omega⟩⟩))
            have HB6 := Lib.hid (show RowC w6 B off bs by rw [← hw]; exact (((HB4.out.under hb).other HBL.out _ _).other HBL.out _ _).other HBL.out _ _)
            obtain ⟨c0, c1, c2, c3, c4, c5⟩ := S5.out.box
            have HW := Lib.hid hw
            clear hb hr4 hx4 hw hl2 hl3
            go_upto_region 13 with fail
            try rw [HW.out]
            clear HW c0 c1 c2 c3 c4 c5
            go_wp2_with fail
            go_roundw
            case rel => exact ⟨q + 1, t, t, a4, n4, cap4, by go_num, rfl, by omega, HFT, fun _ => rfl, S6, HB6⟩
            case measure => simp [intOf]; omega
          · have ec2 : (s.c == 0) = false := by simpa using hc2
            have HFT := Lib.hid (show foldA bs (q + 1) = ⟨[], 0, 0, s.c⟩ by rw [HFN.out, nextA_bad HC0.out (by rw [HPS.out]; exact hc2), HPS.out])
            have HNC := Lib.hid (show (Rs.mk [] 0 0 s.c).c = 0 → rb = ⟨[], 0, 0, s.c⟩ from fun h => absurd h hc2)
            clear hc2
            go_wp2_with fail
            go_roundw
            case rel => exact ⟨q + 1, ⟨[], 0, 0, s.c⟩, rb, a, n, cap', by go_num, rfl, by omega, HFT, HNC, S4, HB4⟩
            case measure => simp [intOf]; omega
        · have hlI : ¬ (q : Int) + 1 < (k : Int) := by omega
          have HZ2 := Lib.hid (show ans = rb by rw [HZ.out, ← HF.out, show bs.length - 1 = q from by have := HK.out; omega])
          have HP := Lib.hid HS.out.post
          obtain ⟨c0, c1, c2, c3, c4, c5⟩ := HS.out.box
          obtain ⟨e0, e1, e2, e3, e4, e5⟩ := HS.out.res
          have hl1 := HS.out.lt
          have hl2 : ¬ w.heap.size = L := by omega
          have hl3 : ¬ L = w.heap.size := by omega
          have HPC := Lib.hid HC0.out
          go_wp2_with fail
          refine bodyPost_ret (v := .tuple #[curV a n cap' rb.p rb.inc, .int .i64 0]) (by simp [results, Try.results87, go_sem, e0, e1, e2]) rfl ?_
          rw [HZ2.out]
          have h9 := HP.out
          rw [HPC.out] at h9 ⊢
          exact h9
      · have ec : (r.c == 0) = false := by simpa using hc
        have ec' : ¬ r.c = 0 := hc
        have HZ2 := Lib.hid (show ans = ⟨[], 0, 0, r.c⟩ by
          rw [HZ.out, foldA_stop (k := q) (by rw [HF.out]; exact hc) (bs.length - 1) (by have := HK.out; omega), HF.out]
          rcases HRO.out with ⟨h, _⟩ | ⟨_, h1, h2, h3⟩
          · exact absurd h hc
          · cases r; simp at h1 h2 h3; simp [h1, h2, h3])
        have HBZ := Lib.hid HS.out.below
        obtain ⟨e0, e1, e2, e3, e4, e5⟩ := HS.out.res
        clear hc
        go_wp2_with fail
        all_goals (refine bodyPost_ret (v := .tuple #[curV none 0 0 0 0, .int .i64 r.c]) (by simp [results, Try.results87, go_sem, e0, e1, e2]) rfl ?_; rw [HZ2.out]; exact GivesCE.postBad (b := w.heap.size) HBZ.out (Nat.le_refl _) r.c)

end Go.Proofs.Ytjipmkgnndldpaa
