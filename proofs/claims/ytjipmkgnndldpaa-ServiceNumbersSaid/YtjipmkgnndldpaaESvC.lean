/- Contracts of package service: which paces of a list are faulty, chained, Wait. By the verifier's side. -/
import Derived.Test.YtjipmkgnndldpaaESvL
import Derived.Test.YtjipmkgnndldpaaEBkFSvFSvG
namespace Go.Proofs.Ytjipmkgnndldpaa
open Go.RowKit
set_option linter.unusedSimpArgs false
set_option linter.unusedVariables false

/-- Four numbers in a block of their own. -/
structure Pq4 (w : World) (p : Nat) (x0 x1 x2 x3 : Int) : Prop where
  c0 : w.cell? ⟨p, 0, none⟩ = some (.int .i64 x0)
  c1 : w.cell? ⟨p, 1, none⟩ = some (.int .i64 x1)
  c2 : w.cell? ⟨p, 2, none⟩ = some (.int .i64 x2)
  c3 : w.cell? ⟨p, 3, none⟩ = some (.int .i64 x3)
  f0 : w.frozen? ⟨p, 0, none⟩ = false
  f1 : w.frozen? ⟨p, 1, none⟩ = false
  f2 : w.frozen? ⟨p, 2, none⟩ = false
  f3 : w.frozen? ⟨p, 3, none⟩ = false
theorem Pq4.lt {w : World} {p : Nat} {x0 x1 x2 x3 : Int} (h : Pq4 w p x0 x1 x2 x3) : p < w.heap.size := lt_of_cell h.c0
theorem Pq4.below {w w' : World} {p : Nat} {x0 x1 x2 x3 : Int} (h : Pq4 w p x0 x1 x2 x3) (hb : Below w.heap.size w w') : Pq4 w' p x0 x1 x2 x3 :=
  ⟨(hb.cell (p := ⟨p, 0, none⟩) h.lt).trans h.c0, (hb.cell (p := ⟨p, 1, none⟩) h.lt).trans h.c1, (hb.cell (p := ⟨p, 2, none⟩) h.lt).trans h.c2, (hb.cell (p := ⟨p, 3, none⟩) h.lt).trans h.c3,
   (hb.frozen (p := ⟨p, 0, none⟩) h.lt).trans h.f0, (hb.frozen (p := ⟨p, 1, none⟩) h.lt).trans h.f1, (hb.frozen (p := ⟨p, 2, none⟩) h.lt).trans h.f2, (hb.frozen (p := ⟨p, 3, none⟩) h.lt).trans h.f3⟩
theorem Pq4.alloc {w : World} {p : Nat} {x0 x1 x2 x3 : Int} (h : Pq4 w p x0 x1 x2 x3) (o : Obj) : Pq4 (w.alloc o) p x0 x1 x2 x3 := h.below ((Below.refl _ _).alloc (Nat.le_refl _) o)
theorem Pq4.new (w : World) (x0 x1 x2 x3 : Int) (t : TypeId) : Pq4 (w.alloc (.cells #[.int .i64 x0, .int .i64 x1, .int .i64 x2, .int .i64 x3] t)) w.heap.size x0 x1 x2 x3 :=
  ⟨by go_simp, by go_simp, by go_simp, by go_simp, by go_simp, by go_simp, by go_simp, by go_simp⟩
theorem Pq4.other {w : World} {p q : Nat} {x0 x1 x2 x3 : Int} (h : Pq4 w p x0 x1 x2 x3) (hq : p ≠ q) (i : Nat) (v : Value) : Pq4 (w.setCell ⟨q, i, none⟩ v) p x0 x1 x2 x3 := by
  have hb : (w.setCell ⟨q, i, none⟩ v).heap[p]? = w.heap[p]? := Below.heap_setCell _ _ _ _ hq
  have hc : ∀ o, (w.setCell ⟨q, i, none⟩ v).cell? ⟨p, o, none⟩ = w.cell? ⟨p, o, none⟩ := fun o => World.cell?_of_block (w := w) (a := ⟨p, o, none⟩) hb
  have hf : ∀ o, (w.setCell ⟨q, i, none⟩ v).frozen? ⟨p, o, none⟩ = w.frozen? ⟨p, o, none⟩ := fun o => World.frozen?_of_block (w := w) (a := ⟨p, o, none⟩) hb
  exact ⟨(hc _).trans h.c0, (hc _).trans h.c1, (hc _).trans h.c2, (hc _).trans h.c3, (hf _).trans h.f0, (hf _).trans h.f1, (hf _).trans h.f2, (hf _).trans h.f3⟩
theorem Pq4.set {w : World} {p : Nat} {x0 x1 x2 x3 : Int} (h : Pq4 w p x0 x1 x2 x3) (y0 y1 y2 y3 : Int) : Pq4 ((((w.setCell ⟨p, 0, none⟩ (.int .i64 y0)).setCell ⟨p, 1, none⟩ (.int .i64 y1)).setCell ⟨p, 2, none⟩ (.int .i64 y2)).setCell ⟨p, 3, none⟩ (.int .i64 y3)) p y0 y1 y2 y3 := by
  obtain ⟨c0, c1, c2, c3, f0, f1, f2, f3⟩ := h
  exact ⟨by go_simp, by go_simp, by go_simp, by go_simp, by go_simp, by go_simp, by go_simp, by go_simp⟩
/-- A pace and an error are handed back. -/
def GivesPk (r : Pk) (w : World) (e : Ending) (w' : World) : Prop :=
  e = .returned (.tuple #[bucketV r.rn r.rd r.ln r.ld, .int .i64 r.c]) ∧ Below w.heap.size w w'

set_option maxHeartbeats 800000 in
theorem svindex_any (B K cap : Nat) (bs : List Bkt) (hk : bs.length = K) (hK : K ≤ 1000) (w : World) (h : RowB w B 0 bs) :
    Calls Try.prog 194 #[.slice (some ⟨B, 0, none⟩) K cap, .func (.func 95) #[] #[]] w fun e w' => ∃ r : Int, -1 ≤ r ∧ r ≤ 1000 ∧ decide (0 ≤ r) = badL bs ∧ e = .returned (.int .i64 r) ∧ Below w.heap.size w w' := by
  have H := Lib.hid h
  have HK := Lib.hid hk
  clear h hk
  go_enter Try.func194, Try.ntmps194
  go_wp2_with fail
  go_loopw [8] (fun vi wx => ∃ k : Nat, vi = .int .i64 k ∧ k ≤ K ∧ Hid (∀ (i : Nat) (b : Bkt), i < k → bs[i]? = some b → b.ok = true) ∧ Hid (Below w.heap.size w wx)) (fun vi _ => K - (intOf vi).toNat)
  case atStart => exact ⟨0, by go_num, Nat.zero_le _, fun i b hi => absurd hi (Nat.not_lt_zero _), Below.refl _ _⟩
  case round =>
    obtain ⟨k, rfl, hk, hall, HW⟩ := hrel
    obtain ⟨wk, rfl⟩ : ∃ u : World, u = wr := ⟨_, rfl⟩
    by_cases hlt : k < K
    · obtain ⟨b, hc⟩ : ∃ b, bs[k]? = some b := ⟨_, List.getElem?_eq_getElem (by rw [HK.out]; exact hlt)⟩
      obtain ⟨c0, c1, c2, c3⟩ := (H.out.under HW.out).at0 hc
      obtain ⟨ok, hok⟩ : ∃ o, b.ok = o := ⟨_, rfl⟩
      have HC := Lib.hid (And.intro hc hok)
      have hlI : (k : Int) < (K : Int) := by omega
      clear hc hok
      go_wp2_with fail
      clear c0 c1 c2 c3
      refine (svfaulty_any b.bn b.bd b.rn b.rd ok HC.out.2 _).mono ?_
      rintro e w1 ⟨rfl, hb⟩
      have HW1 := Lib.hid (HW.out.trans (hb.mono HW.out.size))
      clear hb
      cases ok with
      | false =>
        go_wp2_with fail
        go_ret
        exact ⟨k, by omega, by omega, by rw [badL_of HC.out.1 HC.out.2]; simp, rfl, HW1.out⟩
      | true =>
        have hall2 := Lib.hid (show ∀ i c, i < k + 1 → bs[i]? = some c → c.ok = true from fun i c hi hc => by
          by_cases he : i = k
          · subst he; rw [HC.out.1] at hc; cases hc; exact HC.out.2
          · exact hall.out i c (by omega) hc)
        go_wp2_with fail
        go_roundw
        case rel => exact ⟨k + 1, by go_num, by omega, hall2, HW1⟩
        case measure => simp [intOf]; omega
    · obtain rfl : k = K := by omega
      go_wp2_with fail
      go_ret
      exact ⟨-1, by omega, by omega, by rw [badL_not (fun i b hb => hall.out i b (by have := (List.getElem?_eq_some_iff.1 hb).1; have := HK.out; omega) hb)]; simp, rfl, HW.out⟩

set_option maxHeartbeats 400000 in
theorem svcontains_any (B K cap : Nat) (bs : List Bkt) (hk : bs.length = K) (hK : K ≤ 1000) (c : Bool) (hc : badL bs = c) (w : World) (h : RowB w B 0 bs) :
    Calls Try.prog 100 #[.slice (some ⟨B, 0, none⟩) K cap, .func (.func 95) #[] #[]] w (Says (.bool c) w) := by
  have H := Lib.hid h
  have HB := Lib.hid (And.intro hc hk)
  clear h hc hk
  go_enter Try.func100, Try.ntmps100
  go_wp2_with fail
  refine (svindex_any B K cap bs HB.out.2 hK _ H.out).mono ?_
  rintro e w1 ⟨r, h1, h2, h3, rfl, hb⟩
  rw [HB.out.1] at h3
  subst h3
  have HW := Lib.hid hb
  clear hb
  go_wp2_with fail
  go_ret
  exact ⟨rfl, HW.out⟩

theorem svbelow4 {B : Nat} {u w : World} {b : Nat} (h : Below B u w) (hb : B ≤ b) (y0 y1 y2 y3 : Value) : Below B u ((((w.setCell ⟨b, 0, none⟩ y0).setCell ⟨b, 1, none⟩ y1).setCell ⟨b, 2, none⟩ y2).setCell ⟨b, 3, none⟩ y3) :=
  (((h.setCell (p := ⟨b, 0, none⟩) hb _).setCell (p := ⟨b, 1, none⟩) hb _).setCell (p := ⟨b, 2, none⟩) hb _).setCell (p := ⟨b, 3, none⟩) hb _
theorem Bk4.other {w : World} {p q : Nat} {x0 x1 x2 x3 : Int} (h : Bk4 w p x0 x1 x2 x3) (hq : p ≠ q) (i : Nat) (v : Value) : Bk4 (w.setCell ⟨q, i, none⟩ v) p x0 x1 x2 x3 := by
  have hb : (w.setCell ⟨q, i, none⟩ v).heap[p]? = w.heap[p]? := Below.heap_setCell _ _ _ _ hq
  have hc : ∀ o, (w.setCell ⟨q, i, none⟩ v).cell? ⟨p, o, none⟩ = w.cell? ⟨p, o, none⟩ := fun o => World.cell?_of_block (w := w) (a := ⟨p, o, none⟩) hb
  exact ⟨(hc _).trans h.c0, (hc _).trans h.c1, (hc _).trans h.c2, (hc _).trans h.c3⟩
/-- What chained has in its boxes. -/
structure Ch3 (w : World) (a b : Bkt) (u : World) : Prop where
  xa : Bk4 u w.heap.size a.bn a.bd a.rn a.rd
  xb : Bk4 u (w.heap.size + 1) b.bn b.bd b.rn b.rd
  xr : Pq4 u (w.heap.size + 2) 0 0 0 0
  below : Below w.heap.size w u
theorem Ch3.call {w u v : World} {a b : Bkt} (h : Ch3 w a b u) (hb : Below u.heap.size u v) : Ch3 w a b v := ⟨h.xa.below hb, h.xb.below hb, h.xr.below hb, h.below.trans (hb.mono h.below.size)⟩
theorem Ch3.put {w u : World} {a b : Bkt} (h : Ch3 w a b u) {R : Nat} (hR : w.heap.size + 2 < R) (x y : Value) : Ch3 w a b ((u.setCell ⟨R, 0, none⟩ x).setCell ⟨R, 1, none⟩ y) :=
  ⟨(h.xa.other (by omega) _ _).other (by omega) _ _, (h.xb.other (by omega) _ _).other (by omega) _ _, (h.xr.other (by omega) _ _).other (by omega) _ _, (h.below.setCell (p := ⟨R, 0, none⟩) (by show w.heap.size ≤ R; omega) _).setCell (p := ⟨R, 1, none⟩) (by show w.heap.size ≤ R; omega) _⟩
theorem Ch3.start (w : World) (a b : Bkt) (t1 t2 t3 : TypeId) : Ch3 w a b (((w.alloc (.cells #[.int .i64 a.bn, .int .i64 a.bd, .int .i64 a.rn, .int .i64 a.rd] t1)).alloc (.cells #[.int .i64 b.bn, .int .i64 b.bd, .int .i64 b.rn, .int .i64 b.rd] t2)).alloc (.cells #[.int .i64 0, .int .i64 0, .int .i64 0, .int .i64 0] t3)) := by
  refine ⟨((Bk4.new w _ _ _ _ t1).alloc _).alloc _, ?_, ?_, (((Below.refl _ _).alloc (Nat.le_refl _) _).alloc (by simp) _).alloc (by simp; omega) _⟩
  · have := (Bk4.new (w.alloc (.cells #[.int .i64 a.bn, .int .i64 a.bd, .int .i64 a.rn, .int .i64 a.rd] t1)) b.bn b.bd b.rn b.rd t2).alloc (.cells #[.int .i64 0, .int .i64 0, .int .i64 0, .int .i64 0] t3)
    rwa [show (w.alloc (.cells #[.int .i64 a.bn, .int .i64 a.bd, .int .i64 a.rn, .int .i64 a.rd] t1)).heap.size = w.heap.size + 1 by simp] at this
  · have := Pq4.new ((w.alloc (.cells #[.int .i64 a.bn, .int .i64 a.bd, .int .i64 a.rn, .int .i64 a.rd] t1)).alloc (.cells #[.int .i64 b.bn, .int .i64 b.bd, .int .i64 b.rn, .int .i64 b.rd] t2)) 0 0 0 0 t3
    rwa [show ((w.alloc (.cells #[.int .i64 a.bn, .int .i64 a.bd, .int .i64 a.rn, .int .i64 a.rd] t1)).alloc (.cells #[.int .i64 b.bn, .int .i64 b.bd, .int .i64 b.rn, .int .i64 b.rd] t2)).heap.size = w.heap.size + 2 by simp] at this

set_option maxRecDepth 100000 in
set_option maxHeartbeats 1600000 in
theorem chained_any (a b : Bkt) (w : World) :
    Calls Try.prog 103 #[bucketV a.bn a.bd a.rn a.rd, bucketV b.bn b.bd b.rn b.rd] w (GivesPk (linkA ⟨a.bn, a.bd, a.rn, a.rd, 0⟩ b) w) := by
  obtain ⟨W, hW⟩ : ∃ W, ((w.alloc (.cells #[.int .i64 a.bn, .int .i64 a.bd, .int .i64 a.rn, .int .i64 a.rd] 25)).alloc (.cells #[.int .i64 b.bn, .int .i64 b.bd, .int .i64 b.rn, .int .i64 b.rd] 25)).alloc (.cells #[.int .i64 0, .int .i64 0, .int .i64 0, .int .i64 0] 25) = W := ⟨_, rfl⟩
  have HX := Lib.hid (show Ch3 w a b W by rw [← hW]; exact Ch3.start w a b _ _ _)
  have HW := Lib.hid hW
  clear hW
  obtain ⟨s, hs⟩ : ∃ s, addF a.rn a.rd b.rn b.rd = s := ⟨_, rfl⟩
  obtain ⟨sn, sd, se⟩ := s
  obtain ⟨cm, hcm⟩ : ∃ c, compareF b.bn b.bd a.bn a.bd = c := ⟨_, rfl⟩
  obtain ⟨k, hk⟩ : ∃ k, linkA ⟨a.bn, a.bd, a.rn, a.rd, 0⟩ b = k := ⟨_, rfl⟩
  rw [hk]
  unfold linkA at hk
  dsimp only at hk
  rw [hs, hcm] at hk
  dsimp only at hk
  have HA := Lib.hid hs
  have HC := Lib.hid hcm
  clear hs hcm
  by_cases h0 : se = 0
  · subst h0
    rw [if_pos rfl] at hk
    by_cases hc : cm < 0
    · rw [if_pos hc] at hk
      subst hk
      go_enter Try.func103, Try.ntmps103
      go_upto_region 1 with fail
      rw [HW.out]
      clear HW
      obtain ⟨a0, a1, a2, a3⟩ := HX.out.xa
      obtain ⟨b0, b1, b2, b3⟩ := HX.out.xb
      go_wp2_with fail
      clear a0 a1 a2 a3 b0 b1 b2 b3
      refine (add_all a.rn a.rd b.rn b.rd _).mono ?_
      rintro e u1 ⟨he, hb⟩
      rw [HA.out] at he
      subst he
      obtain ⟨u2, hw⟩ : ∃ w', u1.alloc (.cells #[.int .i64 sn, .int .i64 sd] 23) = w' := ⟨_, rfl⟩
      have hz : Below W.heap.size W u2 := by rw [← hw]; exact hb.trans ((below_box _).mono hb.size)
      have HX2 := Lib.hid (HX.out.call hz)
      have XS := Lib.hid (show Box u2 u1.heap.size sn sd by rw [← hw]; exact Box.new _ _ _ _)
      have HSZ := Lib.hid (show w.heap.size + 2 < u1.heap.size from Nat.lt_of_lt_of_le HX.out.xr.lt hb.size)
      have HW := Lib.hid hw
      clear hb hw hz
      go_upto_region 2 with fail
      try rw [HW.out]
      obtain ⟨G, hG⟩ : ∃ B, u1.heap.size = B := ⟨_, rfl⟩
      rw [hG] at XS HSZ
      try rw [hG]
      clear HW hG
      go_upto_region 4 with fail
      obtain ⟨u3, hw⟩ : ∃ w', u2.alloc (.cells #[.int .i64 a.bn, .int .i64 a.bd] 23) = w' := ⟨_, rfl⟩
      have hz : Below u2.heap.size u2 u3 := by rw [← hw]; exact below_box _
      have HX3 := Lib.hid (HX2.out.call hz)
      have XS3 := Lib.hid (XS.out.below hz)
      have XR := Lib.hid (show Box u3 u2.heap.size a.bn a.bd by rw [← hw]; exact Box.new _ _ _ _)
      have HSR := Lib.hid (show w.heap.size + 2 < u2.heap.size ∧ G < u2.heap.size from ⟨HX2.out.xr.lt, XS.out.lt⟩)
      have HW := Lib.hid hw
      obtain ⟨a0, a1, a2, a3⟩ := HX2.out.xa
      clear hw hz
      go_upto_region 5 with fail
      try rw [HW.out]
      obtain ⟨R, hG⟩ : ∃ B, u2.heap.size = B := ⟨_, rfl⟩
      rw [hG] at XR HSR
      try rw [hG]
      clear HW hG a0 a1 a2 a3
      obtain ⟨b0, b1, b2, b3⟩ := HX3.out.xb
      obtain ⟨r0, r1, _, _⟩ := XR.out
      go_wp2_with fail
      clear b0 b1 b2 b3 r0 r1
      refine (compare_all b.bn b.bd a.bn a.bd _).mono ?_
      rintro e u4 ⟨rfl, hb⟩
      rw [HC.out]
      have HX4 := Lib.hid (HX3.out.call hb)
      have XS4 := Lib.hid (XS3.out.below hb)
      have XR4 := Lib.hid (XR.out.below hb)
      clear hb
      obtain ⟨u5, hw⟩ : ∃ w', (u4.setCell ⟨R, 0, none⟩ (.int .i64 b.bn)).setCell ⟨R, 1, none⟩ (.int .i64 b.bd) = w' := ⟨_, rfl⟩
      have HX5 := Lib.hid (show Ch3 w a b u5 by rw [← hw]; exact HX4.out.put HSR.out.1 _ _)
      have XS5 := Lib.hid (show Box u5 G sn sd by rw [← hw]; exact (XS4.out.other (by have := HSR.out.2; omega) _ _).other (by have := HSR.out.2; omega) _ _)
      have XR5 := Lib.hid (show Box u5 R b.bn b.bd by rw [← hw]; exact XR4.out.set _ _)
      have HW := Lib.hid hw
      obtain ⟨b0, b1, b2, b3⟩ := HX4.out.xb
      obtain ⟨r0, r1, r2, r3⟩ := XR4.out
      clear hw
      go_upto_region 7 with fail
      try rw [HW.out]
      clear HW b0 b1 b2 b3 r0 r1 r2 r3
      obtain ⟨s0, s1, _, _⟩ := XS5.out
      obtain ⟨r0, r1, _, _⟩ := XR5.out
      obtain ⟨e0, e1, e2, e3, e4, e5, e6, e7⟩ := HX5.out.xr
      go_wp2_with fail
      exact bodyPost_ret (v := .tuple #[bucketV b.bn b.bd sn sd, .int .i64 0]) (by simp [results, Try.results103, go_sem, e0, e1, e2, e3, e4, e5, e6, e7]) rfl ⟨rfl, svbelow4 HX5.out.below (by omega) _ _ _ _⟩
    · rw [if_neg hc] at hk
      subst hk
      go_enter Try.func103, Try.ntmps103
      go_upto_region 1 with fail
      rw [HW.out]
      clear HW
      obtain ⟨a0, a1, a2, a3⟩ := HX.out.xa
      obtain ⟨b0, b1, b2, b3⟩ := HX.out.xb
      go_wp2_with fail
      clear a0 a1 a2 a3 b0 b1 b2 b3
      refine (add_all a.rn a.rd b.rn b.rd _).mono ?_
      rintro e u1 ⟨he, hb⟩
      rw [HA.out] at he
      subst he
      obtain ⟨u2, hw⟩ : ∃ w', u1.alloc (.cells #[.int .i64 sn, .int .i64 sd] 23) = w' := ⟨_, rfl⟩
      have hz : Below W.heap.size W u2 := by rw [← hw]; exact hb.trans ((below_box _).mono hb.size)
      have HX2 := Lib.hid (HX.out.call hz)
      have XS := Lib.hid (show Box u2 u1.heap.size sn sd by rw [← hw]; exact Box.new _ _ _ _)
      have HSZ := Lib.hid (show w.heap.size + 2 < u1.heap.size from Nat.lt_of_lt_of_le HX.out.xr.lt hb.size)
      have HW := Lib.hid hw
      clear hb hw hz
      go_upto_region 2 with fail
      try rw [HW.out]
      obtain ⟨G, hG⟩ : ∃ B, u1.heap.size = B := ⟨_, rfl⟩
      rw [hG] at XS HSZ
      try rw [hG]
      clear HW hG
      go_upto_region 4 with fail
      obtain ⟨u3, hw⟩ : ∃ w', u2.alloc (.cells #[.int .i64 a.bn, .int .i64 a.bd] 23) = w' := ⟨_, rfl⟩
      have hz : Below u2.heap.size u2 u3 := by rw [← hw]; exact below_box _
      have HX3 := Lib.hid (HX2.out.call hz)
      have XS3 := Lib.hid (XS.out.below hz)
      have XR := Lib.hid (show Box u3 u2.heap.size a.bn a.bd by rw [← hw]; exact Box.new _ _ _ _)
      have HSR := Lib.hid (show w.heap.size + 2 < u2.heap.size ∧ G < u2.heap.size from ⟨HX2.out.xr.lt, XS.out.lt⟩)
      have HW := Lib.hid hw
      obtain ⟨a0, a1, a2, a3⟩ := HX2.out.xa
      clear hw hz
      go_upto_region 5 with fail
      try rw [HW.out]
      obtain ⟨R, hG⟩ : ∃ B, u2.heap.size = B := ⟨_, rfl⟩
      rw [hG] at XR HSR
      try rw [hG]
      clear HW hG a0 a1 a2 a3
      obtain ⟨b0, b1, b2, b3⟩ := HX3.out.xb
      obtain ⟨r0, r1, _, _⟩ := XR.out
      go_wp2_with fail
      clear b0 b1 b2 b3 r0 r1
      refine (compare_all b.bn b.bd a.bn a.bd _).mono ?_
      rintro e u4 ⟨rfl, hb⟩
      rw [HC.out]
      have HX4 := Lib.hid (HX3.out.call hb)
      have XS4 := Lib.hid (XS3.out.below hb)
      have XR4 := Lib.hid (XR.out.below hb)
      clear hb
      go_upto_region 7 with fail
      obtain ⟨s0, s1, _, _⟩ := XS4.out
      obtain ⟨r0, r1, _, _⟩ := XR4.out
      obtain ⟨e0, e1, e2, e3, e4, e5, e6, e7⟩ := HX4.out.xr
      go_wp2_with fail
      exact bodyPost_ret (v := .tuple #[bucketV a.bn a.bd sn sd, .int .i64 0]) (by simp [results, Try.results103, go_sem, e0, e1, e2, e3, e4, e5, e6, e7]) rfl ⟨rfl, svbelow4 HX4.out.below (by omega) _ _ _ _⟩
  · rw [if_neg h0] at hk
    subst hk
    have hb0 : (se == 0) = false := by simpa using h0
    have hb1 : (se != 0) = true := by simpa using h0
    go_enter Try.func103, Try.ntmps103
    go_upto_region 1 with fail
    rw [HW.out]
    clear HW
    obtain ⟨a0, a1, a2, a3⟩ := HX.out.xa
    obtain ⟨b0, b1, b2, b3⟩ := HX.out.xb
    go_wp2_with fail
    clear a0 a1 a2 a3 b0 b1 b2 b3
    refine (add_all a.rn a.rd b.rn b.rd _).mono ?_
    rintro e u1 ⟨he, hb⟩
    rw [HA.out] at he
    subst he
    obtain ⟨u2, hw⟩ : ∃ w', u1.alloc (.cells #[.int .i64 sn, .int .i64 sd] 23) = w' := ⟨_, rfl⟩
    have hz : Below W.heap.size W u2 := by rw [← hw]; exact hb.trans ((below_box _).mono hb.size)
    have HX2 := Lib.hid (HX.out.call hz)
    have XS := Lib.hid (show Box u2 u1.heap.size sn sd by rw [← hw]; exact Box.new _ _ _ _)
    have HSZ := Lib.hid (show w.heap.size + 2 < u1.heap.size from Nat.lt_of_lt_of_le HX.out.xr.lt hb.size)
    have HW := Lib.hid hw
    clear hb hw hz
    go_upto_region 2 with fail
    try rw [HW.out]
    obtain ⟨G, hG⟩ : ∃ B, u1.heap.size = B := ⟨_, rfl⟩
    rw [hG] at XS HSZ
    try rw [hG]
    clear HW hG
    obtain ⟨e0, e1, e2, e3, e4, e5, e6, e7⟩ := HX2.out.xr
    go_wp2_with fail
    exact bodyPost_ret (v := .tuple #[bucketV 0 0 0 0, .int .i64 se]) (by simp [results, Try.results103, go_sem, e0, e1, e2, e3, e4, e5, e6, e7]) rfl ⟨rfl, svbelow4 HX2.out.below (by omega) _ _ _ _⟩

/-- What Wait has in its boxes. -/
structure Wt (w : World) (bn bd an ad rn rd ln ld : Int) (u : World) : Prop where
  x : Bk4 u w.heap.size bn bd an ad
  y : Bk4 u (w.heap.size + 1) rn rd ln ld
  r : Box u (w.heap.size + 2) 0 0
  below : Below w.heap.size w u
section
variable {w u v : World} {bn bd an ad rn rd ln ld : Int}
theorem Wt.call (h : Wt w bn bd an ad rn rd ln ld u) (hb : Below u.heap.size u v) : Wt w bn bd an ad rn rd ln ld v := ⟨h.x.below hb, h.y.below hb, h.r.below hb, h.below.trans (hb.mono h.below.size)⟩
theorem Wt.put (h : Wt w bn bd an ad rn rd ln ld u) {R : Nat} (hR : w.heap.size + 2 < R) (x y : Value) : Wt w bn bd an ad rn rd ln ld ((u.setCell ⟨R, 0, none⟩ x).setCell ⟨R, 1, none⟩ y) :=
  ⟨(h.x.other (by omega) _ _).other (by omega) _ _, (h.y.other (by omega) _ _).other (by omega) _ _, (h.r.other (by omega) _ _).other (by omega) _ _, (h.below.setCell (p := ⟨R, 0, none⟩) (by show w.heap.size ≤ R; omega) _).setCell (p := ⟨R, 1, none⟩) (by show w.heap.size ≤ R; omega) _⟩
end
theorem Wt.start (w : World) (bn bd an ad rn rd ln ld : Int) (t1 t2 t3 : TypeId) : Wt w bn bd an ad rn rd ln ld (((w.alloc (.cells #[.int .i64 bn, .int .i64 bd, .int .i64 an, .int .i64 ad] t1)).alloc (.cells #[.int .i64 rn, .int .i64 rd, .int .i64 ln, .int .i64 ld] t2)).alloc (.cells #[.int .i64 0, .int .i64 0] t3)) := by
  refine ⟨((Bk4.new w _ _ _ _ t1).alloc _).alloc _, ?_, ?_, (((Below.refl _ _).alloc (Nat.le_refl _) _).alloc (by simp) _).alloc (by simp; omega) _⟩
  · have := (Bk4.new (w.alloc (.cells #[.int .i64 bn, .int .i64 bd, .int .i64 an, .int .i64 ad] t1)) rn rd ln ld t2).alloc (.cells #[.int .i64 0, .int .i64 0] t3)
    rwa [show (w.alloc (.cells #[.int .i64 bn, .int .i64 bd, .int .i64 an, .int .i64 ad] t1)).heap.size = w.heap.size + 1 by simp] at this
  · have := Box.new ((w.alloc (.cells #[.int .i64 bn, .int .i64 bd, .int .i64 an, .int .i64 ad] t1)).alloc (.cells #[.int .i64 rn, .int .i64 rd, .int .i64 ln, .int .i64 ld] t2)) 0 0 t3
    rwa [show ((w.alloc (.cells #[.int .i64 bn, .int .i64 bd, .int .i64 an, .int .i64 ad] t1)).alloc (.cells #[.int .i64 rn, .int .i64 rd, .int .i64 ln, .int .i64 ld] t2)).heap.size = w.heap.size + 2 by simp] at this

set_option maxRecDepth 100000 in
set_option maxHeartbeats 3200000 in
theorem wait_any (bn bd an ad rn rd ln ld : Int) (w : World) :
    Calls Try.prog 28 #[bucketV bn bd an ad, bucketV rn rd ln ld] w (Gave (waitA bn bd an ad rn rd ln ld) w) := by
  obtain ⟨W, hW⟩ : ∃ W, ((w.alloc (.cells #[.int .i64 bn, .int .i64 bd, .int .i64 an, .int .i64 ad] 46)).alloc (.cells #[.int .i64 rn, .int .i64 rd, .int .i64 ln, .int .i64 ld] 25)).alloc (.cells #[.int .i64 0, .int .i64 0] 23) = W := ⟨_, rfl⟩
  have HX := Lib.hid (show Wt w bn bd an ad rn rd ln ld W by rw [← hW]; exact Wt.start w bn bd an ad rn rd ln ld _ _ _)
  have HW := Lib.hid hW
  clear hW
  obtain ⟨k, hk⟩ : ∃ k, waitA bn bd an ad rn rd ln ld = k := ⟨_, rfl⟩
  rw [hk]
  unfold waitA at hk
  cases h1 : okB bn bd with
  | false =>
    rw [h1] at hk
    rw [if_neg (by simp)] at hk
    subst hk
    have H1 := Lib.hid h1
    clear h1
    go_enter Try.func28, Try.ntmps28
    go_upto_region 1 with fail
    rw [HW.out]
    clear HW
    obtain ⟨a0, a1, a2, a3⟩ := HX.out.x
    go_wp2_with fail
    clear a0 a1 a2 a3
    refine (svunfit_any bn bd _ H1.out _).mono ?_
    rintro e u1 ⟨rfl, hb⟩
    have HX1 := Lib.hid (HX.out.call hb)
    clear hb
    obtain ⟨e0, e1, e2, e3⟩ := HX1.out.r
    go_wp2_with fail
    exact bodyPost_ret (v := .tuple #[.agg #[.int .i64 0, .int .i64 0], .int .i64 2]) (by simp [results, Try.results28, go_sem, e0, e1, e2, e3]) rfl ⟨rfl, (HX1.out.below.setCell (by show w.heap.size ≤ w.heap.size + 2; omega) _).setCell (by show w.heap.size ≤ w.heap.size + 2; omega) _⟩
  | true =>
  cases h2 : okB an ad with
  | false =>
    rw [h1, h2] at hk
    rw [if_neg (by simp)] at hk
    subst hk
    have H1 := Lib.hid h1
    have H2 := Lib.hid h2
    clear h1 h2
    go_enter Try.func28, Try.ntmps28
    go_upto_region 1 with fail
    rw [HW.out]
    clear HW
    obtain ⟨a0, a1, a2, a3⟩ := HX.out.x
    go_wp2_with fail
    clear a0 a1 a2 a3
    refine (svunfit_any bn bd _ H1.out _).mono ?_
    rintro e u1 ⟨rfl, hb⟩
    have HX1 := Lib.hid (HX.out.call hb)
    clear hb
    obtain ⟨a0, a1, a2, a3⟩ := HX1.out.x
    go_wp2_with fail
    clear a0 a1 a2 a3
    refine (svunfit_any an ad _ H2.out _).mono ?_
    rintro e u2 ⟨rfl, hb⟩
    have HX2 := Lib.hid (HX1.out.call hb)
    clear hb
    obtain ⟨e0, e1, e2, e3⟩ := HX2.out.r
    go_wp2_with fail
    exact bodyPost_ret (v := .tuple #[.agg #[.int .i64 0, .int .i64 0], .int .i64 2]) (by simp [results, Try.results28, go_sem, e0, e1, e2, e3]) rfl ⟨rfl, (HX2.out.below.setCell (by show w.heap.size ≤ w.heap.size + 2; omega) _).setCell (by show w.heap.size ≤ w.heap.size + 2; omega) _⟩
  | true =>
  cases h3 : (okB rn rd && okB ln ld) with
  | false =>
    rw [h1, h2, h3] at hk
    rw [if_neg (by simp)] at hk
    subst hk
    have H1 := Lib.hid h1
    have H2 := Lib.hid h2
    have H3 := Lib.hid h3
    clear h1 h2 h3
    go_enter Try.func28, Try.ntmps28
    go_upto_region 1 with fail
    rw [HW.out]
    clear HW
    obtain ⟨a0, a1, a2, a3⟩ := HX.out.x
    go_wp2_with fail
    clear a0 a1 a2 a3
    refine (svunfit_any bn bd _ H1.out _).mono ?_
    rintro e u1 ⟨rfl, hb⟩
    have HX1 := Lib.hid (HX.out.call hb)
    clear hb
    obtain ⟨a0, a1, a2, a3⟩ := HX1.out.x
    go_wp2_with fail
    clear a0 a1 a2 a3
    refine (svunfit_any an ad _ H2.out _).mono ?_
    rintro e u2 ⟨rfl, hb⟩
    have HX2 := Lib.hid (HX1.out.call hb)
    clear hb
    obtain ⟨b0, b1, b2, b3⟩ := HX2.out.y
    go_wp2_with fail
    clear b0 b1 b2 b3
    refine (svfaulty_any rn rd ln ld _ H3.out _).mono ?_
    rintro e u3 ⟨rfl, hb⟩
    have HX3 := Lib.hid (HX2.out.call hb)
    clear hb
    obtain ⟨e0, e1, e2, e3⟩ := HX3.out.r
    go_wp2_with fail
    exact bodyPost_ret (v := .tuple #[.agg #[.int .i64 0, .int .i64 0], .int .i64 2]) (by simp [results, Try.results28, go_sem, e0, e1, e2, e3]) rfl ⟨rfl, (HX3.out.below.setCell (by show w.heap.size ≤ w.heap.size + 2; omega) _).setCell (by show w.heap.size ≤ w.heap.size + 2; omega) _⟩
  | true =>
  rw [h1, h2, h3] at hk
  rw [if_pos (by rfl)] at hk
  have H1 := Lib.hid h1
  have H2 := Lib.hid h2
  have H3 := Lib.hid h3
  clear h1 h2 h3
  by_cases h0 : rn = 0
  · rw [if_pos (.inl h0)] at hk
    subst hk
    have h0b : (rn == 0) = true := by simpa using h0
    clear h0
    go_enter Try.func28, Try.ntmps28
    go_upto_region 1 with fail
    rw [HW.out]
    clear HW
    obtain ⟨a0, a1, a2, a3⟩ := HX.out.x
    go_wp2_with fail
    clear a0 a1 a2 a3
    refine (svunfit_any bn bd _ H1.out _).mono ?_
    rintro e u1 ⟨rfl, hb⟩
    have HX1 := Lib.hid (HX.out.call hb)
    clear hb
    obtain ⟨a0, a1, a2, a3⟩ := HX1.out.x
    go_wp2_with fail
    clear a0 a1 a2 a3
    refine (svunfit_any an ad _ H2.out _).mono ?_
    rintro e u2 ⟨rfl, hb⟩
    have HX2 := Lib.hid (HX1.out.call hb)
    clear hb
    obtain ⟨b0, b1, b2, b3⟩ := HX2.out.y
    go_wp2_with fail
    clear b0 b1 b2 b3
    refine (svfaulty_any rn rd ln ld _ H3.out _).mono ?_
    rintro e u3 ⟨rfl, hb⟩
    have HX3 := Lib.hid (HX2.out.call hb)
    clear hb
    obtain ⟨b0, b1, b2, b3⟩ := HX3.out.y
    obtain ⟨e0, e1, e2, e3⟩ := HX3.out.r
    go_wp2_with fail
    exact bodyPost_ret (v := .tuple #[.agg #[.int .i64 0, .int .i64 0], .int .i64 5]) (by simp [results, Try.results28, go_sem, e0, e1, e2, e3]) rfl ⟨rfl, (HX3.out.below.setCell (by show w.heap.size ≤ w.heap.size + 2; omega) _).setCell (by show w.heap.size ≤ w.heap.size + 2; omega) _⟩
  have h0b : (rn == 0) = false := by simpa using h0
  obtain ⟨cm, hcm⟩ : ∃ c, compareF an ad rn rd = c := ⟨_, rfl⟩
  rw [hcm] at hk
  have HC := Lib.hid hcm
  clear hcm
  by_cases hc : 0 < cm
  · rw [if_pos (.inr hc)] at hk
    subst hk
    have hcd : decide (0 < cm) = true := decide_eq_true hc
    go_enter Try.func28, Try.ntmps28
    go_upto_region 1 with fail
    rw [HW.out]
    clear HW
    obtain ⟨a0, a1, a2, a3⟩ := HX.out.x
    go_wp2_with fail
    clear a0 a1 a2 a3
    refine (svunfit_any bn bd _ H1.out _).mono ?_
    rintro e u1 ⟨rfl, hb⟩
    have HX1 := Lib.hid (HX.out.call hb)
    clear hb
    obtain ⟨a0, a1, a2, a3⟩ := HX1.out.x
    go_wp2_with fail
    clear a0 a1 a2 a3
    refine (svunfit_any an ad _ H2.out _).mono ?_
    rintro e u2 ⟨rfl, hb⟩
    have HX2 := Lib.hid (HX1.out.call hb)
    clear hb
    obtain ⟨b0, b1, b2, b3⟩ := HX2.out.y
    go_wp2_with fail
    clear b0 b1 b2 b3
    refine (svfaulty_any rn rd ln ld _ H3.out _).mono ?_
    rintro e u3 ⟨rfl, hb⟩
    have HX3 := Lib.hid (HX2.out.call hb)
    clear hb
    obtain ⟨a0, a1, a2, a3⟩ := HX3.out.x
    obtain ⟨b0, b1, b2, b3⟩ := HX3.out.y
    go_wp2_with fail
    clear a0 a1 a2 a3 b0 b1 b2 b3
    refine (compare_all an ad rn rd _).mono ?_
    rintro e u4 ⟨rfl, hb⟩
    rw [HC.out]
    have HX4 := Lib.hid (HX3.out.call hb)
    clear hb
    obtain ⟨e0, e1, e2, e3⟩ := HX4.out.r
    go_wp2_with fail
    exact bodyPost_ret (v := .tuple #[.agg #[.int .i64 0, .int .i64 0], .int .i64 5]) (by simp [results, Try.results28, go_sem, e0, e1, e2, e3]) rfl ⟨rfl, (HX4.out.below.setCell (by show w.heap.size ≤ w.heap.size + 2; omega) _).setCell (by show w.heap.size ≤ w.heap.size + 2; omega) _⟩
  rw [if_neg (by rintro (h | h); exact h0 h; exact hc h)] at hk
  have hcd : decide (0 < cm) = false := decide_eq_false hc
  unfold waitS at hk
  obtain ⟨x, hx⟩ : ∃ x, divF bn bd rn rd = x := ⟨_, rfl⟩
  obtain ⟨xn, xd, xe⟩ := x
  rw [hx] at hk
  dsimp only at hk
  have HD := Lib.hid hx
  clear hx
  by_cases e0 : xe = 0
  rotate_left
  · rw [if_neg e0] at hk
    subst hk
    have e0b : (xe == 0) = false := by simpa using e0
    go_enter Try.func28, Try.ntmps28
    go_upto_region 1 with fail
    rw [HW.out]
    clear HW
    obtain ⟨a0, a1, a2, a3⟩ := HX.out.x
    go_wp2_with fail
    clear a0 a1 a2 a3
    refine (svunfit_any bn bd _ H1.out _).mono ?_
    rintro e u1 ⟨rfl, hb⟩
    have HX1 := Lib.hid (HX.out.call hb)
    clear hb
    obtain ⟨a0, a1, a2, a3⟩ := HX1.out.x
    go_wp2_with fail
    clear a0 a1 a2 a3
    refine (svunfit_any an ad _ H2.out _).mono ?_
    rintro e u2 ⟨rfl, hb⟩
    have HX2 := Lib.hid (HX1.out.call hb)
    clear hb
    obtain ⟨b0, b1, b2, b3⟩ := HX2.out.y
    go_wp2_with fail
    clear b0 b1 b2 b3
    refine (svfaulty_any rn rd ln ld _ H3.out _).mono ?_
    rintro e u3 ⟨rfl, hb⟩
    have HX3 := Lib.hid (HX2.out.call hb)
    clear hb
    obtain ⟨a0, a1, a2, a3⟩ := HX3.out.x
    obtain ⟨b0, b1, b2, b3⟩ := HX3.out.y
    go_wp2_with fail
    clear a0 a1 a2 a3 b0 b1 b2 b3
    refine (compare_all an ad rn rd _).mono ?_
    rintro e u4 ⟨rfl, hb⟩
    rw [HC.out]
    have HX4 := Lib.hid (HX3.out.call hb)
    clear hb
    go_upto_region 5 with fail
    obtain ⟨a0, a1, a2, a3⟩ := HX4.out.x
    obtain ⟨b0, b1, b2, b3⟩ := HX4.out.y
    go_wp2_with fail
    clear a0 a1 a2 a3 b0 b1 b2 b3
    refine (div_all bn bd rn rd _).mono ?_
    rintro e v1 ⟨he, hb⟩
    rw [HD.out] at he
    subst he
    obtain ⟨u5, hw⟩ : ∃ w', v1.alloc (.cells #[.int .i64 xn, .int .i64 xd] 23) = w' := ⟨_, rfl⟩
    have hz : Below u4.heap.size u4 u5 := by rw [← hw]; exact hb.trans ((below_box _).mono hb.size)
    have HX5 := Lib.hid (HX4.out.call hz)
    have XG5 := Lib.hid (show Box u5 v1.heap.size xn xd by rw [← hw]; exact Box.new _ _ _ _)
    have HSZ := Lib.hid (show w.heap.size + 2 < v1.heap.size from Nat.lt_of_lt_of_le HX4.out.r.lt hb.size)
    have HW := Lib.hid hw
    clear hb hw hz
    go_upto_region 6 with fail
    try rw [HW.out]
    obtain ⟨G, hG⟩ : ∃ B, v1.heap.size = B := ⟨_, rfl⟩
    rw [hG] at XG5 HSZ
    try rw [hG]
    clear HW hG
    obtain ⟨s0, s1, s2, s3⟩ := XG5.out
    obtain ⟨e0, e1, e2, e3⟩ := HX5.out.r
    go_wp2_with fail
    exact bodyPost_ret (v := .tuple #[.agg #[.int .i64 xn, .int .i64 xd], .int .i64 xe]) (by simp [results, Try.results28, go_sem, e0, e1, e2, e3]) rfl ⟨rfl, (HX5.out.below.setCell (by show w.heap.size ≤ w.heap.size + 2; omega) _).setCell (by show w.heap.size ≤ w.heap.size + 2; omega) _⟩
  subst e0
  rw [if_pos rfl] at hk
  obtain ⟨y, hy⟩ : ∃ y, addF xn xd ln ld = y := ⟨_, rfl⟩
  obtain ⟨yn, yd, ye⟩ := y
  rw [hy] at hk
  dsimp only at hk
  have HY := Lib.hid hy
  clear hy
  by_cases e1 : ye = 0
  rotate_left
  · rw [if_neg e1] at hk
    subst hk
    have e1b : (ye == 0) = false := by simpa using e1
    go_enter Try.func28, Try.ntmps28
    go_upto_region 1 with fail
    rw [HW.out]
    clear HW
    obtain ⟨a0, a1, a2, a3⟩ := HX.out.x
    go_wp2_with fail
    clear a0 a1 a2 a3
    refine (svunfit_any bn bd _ H1.out _).mono ?_
    rintro e u1 ⟨rfl, hb⟩
    have HX1 := Lib.hid (HX.out.call hb)
    clear hb
    obtain ⟨a0, a1, a2, a3⟩ := HX1.out.x
    go_wp2_with fail
    clear a0 a1 a2 a3
    refine (svunfit_any an ad _ H2.out _).mono ?_
    rintro e u2 ⟨rfl, hb⟩
    have HX2 := Lib.hid (HX1.out.call hb)
    clear hb
    obtain ⟨b0, b1, b2, b3⟩ := HX2.out.y
    go_wp2_with fail
    clear b0 b1 b2 b3
    refine (svfaulty_any rn rd ln ld _ H3.out _).mono ?_
    rintro e u3 ⟨rfl, hb⟩
    have HX3 := Lib.hid (HX2.out.call hb)
    clear hb
    obtain ⟨a0, a1, a2, a3⟩ := HX3.out.x
    obtain ⟨b0, b1, b2, b3⟩ := HX3.out.y
    go_wp2_with fail
    clear a0 a1 a2 a3 b0 b1 b2 b3
    refine (compare_all an ad rn rd _).mono ?_
    rintro e u4 ⟨rfl, hb⟩
    rw [HC.out]
    have HX4 := Lib.hid (HX3.out.call hb)
    clear hb
    go_upto_region 5 with fail
    obtain ⟨a0, a1, a2, a3⟩ := HX4.out.x
    obtain ⟨b0, b1, b2, b3⟩ := HX4.out.y
    go_wp2_with fail
    clear a0 a1 a2 a3 b0 b1 b2 b3
    refine (div_all bn bd rn rd _).mono ?_
    rintro e v1 ⟨he, hb⟩
    rw [HD.out] at he
    subst he
    obtain ⟨u5, hw⟩ : ∃ w', v1.alloc (.cells #[.int .i64 xn, .int .i64 xd] 23) = w' := ⟨_, rfl⟩
    have hz : Below u4.heap.size u4 u5 := by rw [← hw]; exact hb.trans ((below_box _).mono hb.size)
    have HX5 := Lib.hid (HX4.out.call hz)
    have XG5 := Lib.hid (show Box u5 v1.heap.size xn xd by rw [← hw]; exact Box.new _ _ _ _)
    have HSZ := Lib.hid (show w.heap.size + 2 < v1.heap.size from Nat.lt_of_lt_of_le HX4.out.r.lt hb.size)
    have HW := Lib.hid hw
    clear hb hw hz
    go_upto_region 6 with fail
    try rw [HW.out]
    obtain ⟨G, hG⟩ : ∃ B, v1.heap.size = B := ⟨_, rfl⟩
    rw [hG] at XG5 HSZ
    try rw [hG]
    clear HW hG
    obtain ⟨b0, b1, b2, b3⟩ := HX5.out.y
    obtain ⟨s0, s1, _, _⟩ := XG5.out
    go_wp2_with fail
    clear s0 s1
    refine (add_all xn xd ln ld _).mono ?_
    rintro e v5 ⟨he, hb⟩
    rw [HY.out] at he
    subst he
    obtain ⟨u6, hw⟩ : ∃ w', (v5.setCell ⟨G, 0, none⟩ (.int .i64 yn)).setCell ⟨G, 1, none⟩ (.int .i64 yd) = w' := ⟨_, rfl⟩
    have HX6 := Lib.hid (show Wt w bn bd an ad rn rd ln ld u6 by rw [← hw]; exact (HX5.out.call hb).put HSZ.out _ _)
    have XG6 := Lib.hid (show Box u6 G yn yd by rw [← hw]; exact (XG5.out.below hb).set _ _)
    obtain ⟨s0, s1, s2, s3⟩ := XG5.out.below hb
    have HW := Lib.hid hw
    clear hb hw
    go_upto_region 8 with fail
    try rw [HW.out]
    clear HW s0 s1 s2 s3
    obtain ⟨s0, s1, s2, s3⟩ := XG6.out
    obtain ⟨e0, e1, e2, e3⟩ := HX6.out.r
    go_wp2_with fail
    exact bodyPost_ret (v := .tuple #[.agg #[.int .i64 yn, .int .i64 yd], .int .i64 ye]) (by simp [results, Try.results28, go_sem, e0, e1, e2, e3]) rfl ⟨rfl, (HX6.out.below.setCell (by show w.heap.size ≤ w.heap.size + 2; omega) _).setCell (by show w.heap.size ≤ w.heap.size + 2; omega) _⟩
  subst e1
  rw [if_pos rfl] at hk
  obtain ⟨z, hz⟩ : ∃ z, subF yn yd 1 1 = z := ⟨_, rfl⟩
  obtain ⟨zn, zd, ze⟩ := z
  rw [hz] at hk
  dsimp only at hk
  have HZ := Lib.hid hz
  clear hz
  by_cases e2 : ze = 0
  rotate_left
  · rw [if_neg (fun h => e2 h.1)] at hk
    subst hk
    have e2b : (ze == 0) = false := by simpa using e2
    go_enter Try.func28, Try.ntmps28
    go_upto_region 1 with fail
    rw [HW.out]
    clear HW
    obtain ⟨a0, a1, a2, a3⟩ := HX.out.x
    go_wp2_with fail
    clear a0 a1 a2 a3
    refine (svunfit_any bn bd _ H1.out _).mono ?_
    rintro e u1 ⟨rfl, hb⟩
    have HX1 := Lib.hid (HX.out.call hb)
    clear hb
    obtain ⟨a0, a1, a2, a3⟩ := HX1.out.x
    go_wp2_with fail
    clear a0 a1 a2 a3
    refine (svunfit_any an ad _ H2.out _).mono ?_
    rintro e u2 ⟨rfl, hb⟩
    have HX2 := Lib.hid (HX1.out.call hb)
    clear hb
    obtain ⟨b0, b1, b2, b3⟩ := HX2.out.y
    go_wp2_with fail
    clear b0 b1 b2 b3
    refine (svfaulty_any rn rd ln ld _ H3.out _).mono ?_
    rintro e u3 ⟨rfl, hb⟩
    have HX3 := Lib.hid (HX2.out.call hb)
    clear hb
    obtain ⟨a0, a1, a2, a3⟩ := HX3.out.x
    obtain ⟨b0, b1, b2, b3⟩ := HX3.out.y
    go_wp2_with fail
    clear a0 a1 a2 a3 b0 b1 b2 b3
    refine (compare_all an ad rn rd _).mono ?_
    rintro e u4 ⟨rfl, hb⟩
    rw [HC.out]
    have HX4 := Lib.hid (HX3.out.call hb)
    clear hb
    go_upto_region 5 with fail
    obtain ⟨a0, a1, a2, a3⟩ := HX4.out.x
    obtain ⟨b0, b1, b2, b3⟩ := HX4.out.y
    go_wp2_with fail
    clear a0 a1 a2 a3 b0 b1 b2 b3
    refine (div_all bn bd rn rd _).mono ?_
    rintro e v1 ⟨he, hb⟩
    rw [HD.out] at he
    subst he
    obtain ⟨u5, hw⟩ : ∃ w', v1.alloc (.cells #[.int .i64 xn, .int .i64 xd] 23) = w' := ⟨_, rfl⟩
    have hz : Below u4.heap.size u4 u5 := by rw [← hw]; exact hb.trans ((below_box _).mono hb.size)
    have HX5 := Lib.hid (HX4.out.call hz)
    have XG5 := Lib.hid (show Box u5 v1.heap.size xn xd by rw [← hw]; exact Box.new _ _ _ _)
    have HSZ := Lib.hid (show w.heap.size + 2 < v1.heap.size from Nat.lt_of_lt_of_le HX4.out.r.lt hb.size)
    have HW := Lib.hid hw
    clear hb hw hz
    go_upto_region 6 with fail
    try rw [HW.out]
    obtain ⟨G, hG⟩ : ∃ B, v1.heap.size = B := ⟨_, rfl⟩
    rw [hG] at XG5 HSZ
    try rw [hG]
    clear HW hG
    obtain ⟨b0, b1, b2, b3⟩ := HX5.out.y
    obtain ⟨s0, s1, _, _⟩ := XG5.out
    go_wp2_with fail
    clear s0 s1
    refine (add_all xn xd ln ld _).mono ?_
    rintro e v5 ⟨he, hb⟩
    rw [HY.out] at he
    subst he
    obtain ⟨u6, hw⟩ : ∃ w', (v5.setCell ⟨G, 0, none⟩ (.int .i64 yn)).setCell ⟨G, 1, none⟩ (.int .i64 yd) = w' := ⟨_, rfl⟩
    have HX6 := Lib.hid (show Wt w bn bd an ad rn rd ln ld u6 by rw [← hw]; exact (HX5.out.call hb).put HSZ.out _ _)
    have XG6 := Lib.hid (show Box u6 G yn yd by rw [← hw]; exact (XG5.out.below hb).set _ _)
    obtain ⟨s0, s1, s2, s3⟩ := XG5.out.below hb
    have HW := Lib.hid hw
    clear hb hw
    go_upto_region 8 with fail
    try rw [HW.out]
    clear HW s0 s1 s2 s3
    clear b0 b1 b2 b3
    obtain ⟨s0, s1, _, _⟩ := XG6.out
    go_wp2_with fail
    clear s0 s1
    refine (sub_all yn yd 1 1 _).mono ?_
    rintro e v6 ⟨he, hb⟩
    rw [HZ.out] at he
    subst he
    obtain ⟨u7, hw⟩ : ∃ w', (v6.setCell ⟨G, 0, none⟩ (.int .i64 zn)).setCell ⟨G, 1, none⟩ (.int .i64 zd) = w' := ⟨_, rfl⟩
    have HX7 := Lib.hid (show Wt w bn bd an ad rn rd ln ld u7 by rw [← hw]; exact (HX6.out.call hb).put HSZ.out _ _)
    have XG7 := Lib.hid (show Box u7 G zn zd by rw [← hw]; exact (XG6.out.below hb).set _ _)
    obtain ⟨s0, s1, s2, s3⟩ := XG6.out.below hb
    have HW := Lib.hid hw
    clear hb hw
    go_upto_region 10 with fail
    try rw [HW.out]
    clear HW s0 s1 s2 s3
    obtain ⟨s0, s1, s2, s3⟩ := XG7.out
    obtain ⟨e0, e1, e2, e3⟩ := HX7.out.r
    go_wp2_with fail
    exact bodyPost_ret (v := .tuple #[.agg #[.int .i64 zn, .int .i64 zd], .int .i64 ze]) (by simp [results, Try.results28, go_sem, e0, e1, e2, e3]) rfl ⟨rfl, (HX7.out.below.setCell (by show w.heap.size ≤ w.heap.size + 2; omega) _).setCell (by show w.heap.size ≤ w.heap.size + 2; omega) _⟩
  subst e2
  by_cases e3 : zn < 0
  · rw [if_pos ⟨rfl, e3⟩] at hk
    subst hk
    go_enter Try.func28, Try.ntmps28
    go_upto_region 1 with fail
    rw [HW.out]
    clear HW
    obtain ⟨a0, a1, a2, a3⟩ := HX.out.x
    go_wp2_with fail
    clear a0 a1 a2 a3
    refine (svunfit_any bn bd _ H1.out _).mono ?_
    rintro e u1 ⟨rfl, hb⟩
    have HX1 := Lib.hid (HX.out.call hb)
    clear hb
    obtain ⟨a0, a1, a2, a3⟩ := HX1.out.x
    go_wp2_with fail
    clear a0 a1 a2 a3
    refine (svunfit_any an ad _ H2.out _).mono ?_
    rintro e u2 ⟨rfl, hb⟩
    have HX2 := Lib.hid (HX1.out.call hb)
    clear hb
    obtain ⟨b0, b1, b2, b3⟩ := HX2.out.y
    go_wp2_with fail
    clear b0 b1 b2 b3
    refine (svfaulty_any rn rd ln ld _ H3.out _).mono ?_
    rintro e u3 ⟨rfl, hb⟩
    have HX3 := Lib.hid (HX2.out.call hb)
    clear hb
    obtain ⟨a0, a1, a2, a3⟩ := HX3.out.x
    obtain ⟨b0, b1, b2, b3⟩ := HX3.out.y
    go_wp2_with fail
    clear a0 a1 a2 a3 b0 b1 b2 b3
    refine (compare_all an ad rn rd _).mono ?_
    rintro e u4 ⟨rfl, hb⟩
    rw [HC.out]
    have HX4 := Lib.hid (HX3.out.call hb)
    clear hb
    go_upto_region 5 with fail
    obtain ⟨a0, a1, a2, a3⟩ := HX4.out.x
    obtain ⟨b0, b1, b2, b3⟩ := HX4.out.y
    go_wp2_with fail
    clear a0 a1 a2 a3 b0 b1 b2 b3
    refine (div_all bn bd rn rd _).mono ?_
    rintro e v1 ⟨he, hb⟩
    rw [HD.out] at he
    subst he
    obtain ⟨u5, hw⟩ : ∃ w', v1.alloc (.cells #[.int .i64 xn, .int .i64 xd] 23) = w' := ⟨_, rfl⟩
    have hz : Below u4.heap.size u4 u5 := by rw [← hw]; exact hb.trans ((below_box _).mono hb.size)
    have HX5 := Lib.hid (HX4.out.call hz)
    have XG5 := Lib.hid (show Box u5 v1.heap.size xn xd by rw [← hw]; exact Box.new _ _ _ _)
    have HSZ := Lib.hid (show w.heap.size + 2 < v1.heap.size from Nat.lt_of_lt_of_le HX4.out.r.lt hb.size)
    have HW := Lib.hid hw
    clear hb hw hz
    go_upto_region 6 with fail
    try rw [HW.out]
    obtain ⟨G, hG⟩ : ∃ B, v1.heap.size = B := ⟨_, rfl⟩
    rw [hG] at XG5 HSZ
    try rw [hG]
    clear HW hG
    obtain ⟨b0, b1, b2, b3⟩ := HX5.out.y
    obtain ⟨s0, s1, _, _⟩ := XG5.out
    go_wp2_with fail
    clear s0 s1
    refine (add_all xn xd ln ld _).mono ?_
    rintro e v5 ⟨he, hb⟩
    rw [HY.out] at he
    subst he
    obtain ⟨u6, hw⟩ : ∃ w', (v5.setCell ⟨G, 0, none⟩ (.int .i64 yn)).setCell ⟨G, 1, none⟩ (.int .i64 yd) = w' := ⟨_, rfl⟩
    have HX6 := Lib.hid (show Wt w bn bd an ad rn rd ln ld u6 by rw [← hw]; exact (HX5.out.call hb).put HSZ.out _ _)
    have XG6 := Lib.hid (show Box u6 G yn yd by rw [← hw]; exact (XG5.out.below hb).set _ _)
    obtain ⟨s0, s1, s2, s3⟩ := XG5.out.below hb
    have HW := Lib.hid hw
    clear hb hw
    go_upto_region 8 with fail
    try rw [HW.out]
    clear HW s0 s1 s2 s3
    clear b0 b1 b2 b3
    obtain ⟨s0, s1, _, _⟩ := XG6.out
    go_wp2_with fail
    clear s0 s1
    refine (sub_all yn yd 1 1 _).mono ?_
    rintro e v6 ⟨he, hb⟩
    rw [HZ.out] at he
    subst he
    obtain ⟨u7, hw⟩ : ∃ w', (v6.setCell ⟨G, 0, none⟩ (.int .i64 zn)).setCell ⟨G, 1, none⟩ (.int .i64 zd) = w' := ⟨_, rfl⟩
    have HX7 := Lib.hid (show Wt w bn bd an ad rn rd ln ld u7 by rw [← hw]; exact (HX6.out.call hb).put HSZ.out _ _)
    have XG7 := Lib.hid (show Box u7 G zn zd by rw [← hw]; exact (XG6.out.below hb).set _ _)
    obtain ⟨s0, s1, s2, s3⟩ := XG6.out.below hb
    have HW := Lib.hid hw
    clear hb hw
    go_upto_region 10 with fail
    try rw [HW.out]
    clear HW s0 s1 s2 s3
    obtain ⟨s0, s1, s2, s3⟩ := XG7.out
    obtain ⟨e0, e1, e2, e3⟩ := HX7.out.r
    go_wp2_with fail
    exact bodyPost_ret (v := .tuple #[.agg #[.int .i64 0, .int .i64 1], .int .i64 0]) (by simp [results, Try.results28, go_sem, e0, e1, e2, e3]) rfl ⟨rfl, (HX7.out.below.setCell (by show w.heap.size ≤ w.heap.size + 2; omega) _).setCell (by show w.heap.size ≤ w.heap.size + 2; omega) _⟩
  · rw [if_neg (fun h => e3 h.2)] at hk
    subst hk
    go_enter Try.func28, Try.ntmps28
    go_upto_region 1 with fail
    rw [HW.out]
    clear HW
    obtain ⟨a0, a1, a2, a3⟩ := HX.out.x
    go_wp2_with fail
    clear a0 a1 a2 a3
    refine (svunfit_any bn bd _ H1.out _).mono ?_
    rintro e u1 ⟨rfl, hb⟩
    have HX1 := Lib.hid (HX.out.call hb)
    clear hb
    obtain ⟨a0, a1, a2, a3⟩ := HX1.out.x
    go_wp2_with fail
    clear a0 a1 a2 a3
    refine (svunfit_any an ad _ H2.out _).mono ?_
    rintro e u2 ⟨rfl, hb⟩
    have HX2 := Lib.hid (HX1.out.call hb)
    clear hb
    obtain ⟨b0, b1, b2, b3⟩ := HX2.out.y
    go_wp2_with fail
    clear b0 b1 b2 b3
    refine (svfaulty_any rn rd ln ld _ H3.out _).mono ?_
    rintro e u3 ⟨rfl, hb⟩
    have HX3 := Lib.hid (HX2.out.call hb)
    clear hb
    obtain ⟨a0, a1, a2, a3⟩ := HX3.out.x
    obtain ⟨b0, b1, b2, b3⟩ := HX3.out.y
    go_wp2_with fail
    clear a0 a1 a2 a3 b0 b1 b2 b3
    refine (compare_all an ad rn rd _).mono ?_
    rintro e u4 ⟨rfl, hb⟩
    rw [HC.out]
    have HX4 := Lib.hid (HX3.out.call hb)
    clear hb
    go_upto_region 5 with fail
    obtain ⟨a0, a1, a2, a3⟩ := HX4.out.x
    obtain ⟨b0, b1, b2, b3⟩ := HX4.out.y
    go_wp2_with fail
    clear a0 a1 a2 a3 b0 b1 b2 b3
    refine (div_all bn bd rn rd _).mono ?_
    rintro e v1 ⟨he, hb⟩
    rw [HD.out] at he
    subst he
    obtain ⟨u5, hw⟩ : ∃ w', v1.alloc (.cells #[.int .i64 xn, .int .i64 xd] 23) = w' := ⟨_, rfl⟩
    have hz : Below u4.heap.size u4 u5 := by rw [← hw]; exact hb.trans ((below_box _).mono hb.size)
    have HX5 := Lib.hid (HX4.out.call hz)
    have XG5 := Lib.hid (show Box u5 v1.heap.size xn xd by rw [← hw]; exact Box.new _ _ _ _)
    have HSZ := Lib.hid (show w.heap.size + 2 < v1.heap.size from Nat.lt_of_lt_of_le HX4.out.r.lt hb.size)
    have HW := Lib.hid hw
    clear hb hw hz
    go_upto_region 6 with fail
    try rw [HW.out]
    obtain ⟨G, hG⟩ : ∃ B, v1.heap.size = B := ⟨_, rfl⟩
    rw [hG] at XG5 HSZ
    try rw [hG]
    clear HW hG
    obtain ⟨b0, b1, b2, b3⟩ := HX5.out.y
    obtain ⟨s0, s1, _, _⟩ := XG5.out
    go_wp2_with fail
    clear s0 s1
    refine (add_all xn xd ln ld _).mono ?_
    rintro e v5 ⟨he, hb⟩
    rw [HY.out] at he
    subst he
    obtain ⟨u6, hw⟩ : ∃ w', (v5.setCell ⟨G, 0, none⟩ (.int .i64 yn)).setCell ⟨G, 1, none⟩ (.int .i64 yd) = w' := ⟨_, rfl⟩
    have HX6 := Lib.hid (show Wt w bn bd an ad rn rd ln ld u6 by rw [← hw]; exact (HX5.out.call hb).put HSZ.out _ _)
    have XG6 := Lib.hid (show Box u6 G yn yd by rw [← hw]; exact (XG5.out.below hb).set _ _)
    obtain ⟨s0, s1, s2, s3⟩ := XG5.out.below hb
    have HW := Lib.hid hw
    clear hb hw
    go_upto_region 8 with fail
    try rw [HW.out]
    clear HW s0 s1 s2 s3
    clear b0 b1 b2 b3
    obtain ⟨s0, s1, _, _⟩ := XG6.out
    go_wp2_with fail
    clear s0 s1
    refine (sub_all yn yd 1 1 _).mono ?_
    rintro e v6 ⟨he, hb⟩
    rw [HZ.out] at he
    subst he
    obtain ⟨u7, hw⟩ : ∃ w', (v6.setCell ⟨G, 0, none⟩ (.int .i64 zn)).setCell ⟨G, 1, none⟩ (.int .i64 zd) = w' := ⟨_, rfl⟩
    have HX7 := Lib.hid (show Wt w bn bd an ad rn rd ln ld u7 by rw [← hw]; exact (HX6.out.call hb).put HSZ.out _ _)
    have XG7 := Lib.hid (show Box u7 G zn zd by rw [← hw]; exact (XG6.out.below hb).set _ _)
    obtain ⟨s0, s1, s2, s3⟩ := XG6.out.below hb
    have HW := Lib.hid hw
    clear hb hw
    go_upto_region 10 with fail
    try rw [HW.out]
    clear HW s0 s1 s2 s3
    obtain ⟨s0, s1, s2, s3⟩ := XG7.out
    obtain ⟨e0, e1, e2, e3⟩ := HX7.out.r
    go_wp2_with fail
    exact bodyPost_ret (v := .tuple #[.agg #[.int .i64 zn, .int .i64 zd], .int .i64 0]) (by simp [results, Try.results28, go_sem, e0, e1, e2, e3]) rfl ⟨rfl, (HX7.out.below.setCell (by show w.heap.size ≤ w.heap.size + 2; omega) _).setCell (by show w.heap.size ≤ w.heap.size + 2; omega) _⟩

end Go.Proofs.Ytjipmkgnndldpaa
