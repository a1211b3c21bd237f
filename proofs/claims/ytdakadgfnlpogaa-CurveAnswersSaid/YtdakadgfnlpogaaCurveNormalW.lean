/- The walk of CurveNormal. By the verifier's side. -/
import Derived.Test.YtdakadgfnlpogaaCurW
import Derived.Test.YtdakadgfnlpogaaCurT
import Derived.Test.YtdakadgfnlpogaaCurU
namespace Go.Proofs.Ytdakadgfnlpogaa
open Go.RowKit
set_option linter.unusedSimpArgs false

theorem RowZ.apart {w w' : World} {a : Option Addr} {n cap b : Nat} {zs : List Int} (h : RowZ w a n cap zs) (ha : Apart b w w') (hx : ∀ x, a = some x → ¬ x.block = b) : RowZ w' a n cap zs :=
  ⟨h.len, h.le, h.sm, h.cm, fun i hi => by
    obtain ⟨x, h1, h2⟩ := h.cell i hi
    have hl := lt_of_cell h2
    rw [add_block] at hl
    exact ⟨x, h1, (World.cell?_of_block (w := w) (ha.block _ (by rw [add_block]; exact hl) (by rw [add_block]; exact hx x h1))).trans h2⟩, h.bd⟩

/-- The first box's cells, and the reader. -/
abbrev HdS (W : World) (F : Nat) (x0 x1 x2 : Value) (b : Nat) (a : Option Addr) (n cap : Nat) (w' : World) : Prop :=
  w'.cell? ⟨F, 0, none⟩ = some x0 ∧ w'.cell? ⟨F, 1, none⟩ = some x1 ∧ w'.cell? ⟨F, 2, none⟩ = some x2 ∧ Hid (Cur3 W F x0 x1 x2 ∧ ¬ F = b ∧ b < W.heap.size ∧ Held W b a n cap w')
section
variable {W u v : World} {F : Nat} {x0 x1 x2 : Value} {b : Nat} {a : Option Addr} {n cap : Nat}
theorem hd_mk (h : Held W b a n cap u) (hF : ¬ F = b) (hb : b < W.heap.size) (hc : Cur3 W F x0 x1 x2) : HdS W F x0 x1 x2 b a n cap u :=
  have k := hc.apart h.ap hF
  ⟨k.c0, k.c1, k.c2, hc, hF, hb, h⟩
theorem hd_of (h : HdS W F x0 x1 x2 b a n cap u) : Held W b a n cap u := h.2.2.2.out.2.2.2
theorem hd_call (h : HdS W F x0 x1 x2 b a n cap u) (hs : SrcAt v b a n cap) (he : Else b u v) : HdS W F x0 x1 x2 b a n cap v :=
  hd_mk ((hd_of h).call hs he.apart) h.2.2.2.out.2.1 h.2.2.2.out.2.2.1 h.2.2.2.out.1
theorem hd_below (h : HdS W F x0 x1 x2 b a n cap u) (hb : Below u.heap.size u v) : HdS W F x0 x1 x2 b a n cap v :=
  hd_mk ((hd_of h).below hb) h.2.2.2.out.2.1 h.2.2.2.out.2.2.1 h.2.2.2.out.1
theorem hd_alloc (h : HdS W F x0 x1 x2 b a n cap u) (o : Obj) : HdS W F x0 x1 x2 b a n cap (u.alloc o) :=
  hd_mk ((hd_of h).alloc o) h.2.2.2.out.2.1 h.2.2.2.out.2.2.1 h.2.2.2.out.1
theorem hd_allocD (h : HdS W F x0 x1 x2 b a n cap u.drew) (o : Obj) : HdS W F x0 x1 x2 b a n cap (u.alloc o).drew := hd_alloc (u := u.drew) h o
theorem hd_set (h : HdS W F x0 x1 x2 b a n cap u) {K : Nat} (hK : W.heap.size ≤ K) (y0 y1 y2 : Value) : HdS W F x0 x1 x2 b a n cap (((u.setCell ⟨K, 0, none⟩ y0).setCell ⟨K, 1, none⟩ y1).setCell ⟨K, 2, none⟩ y2) :=
  hd_mk ((((hd_of h).set h.2.2.2.out.2.2.1 (p := ⟨K, 0, none⟩) hK y0).set h.2.2.2.out.2.2.1 (p := ⟨K, 1, none⟩) hK y1).set h.2.2.2.out.2.2.1 (p := ⟨K, 2, none⟩) hK y2) h.2.2.2.out.2.1 h.2.2.2.out.2.2.1 h.2.2.2.out.1
theorem hd_swap {o : Obj} (h : HdS W F x0 x1 x2 b a n cap (u.alloc o)) (hu : W.heap.size ≤ u.heap.size) (o' : Obj) : HdS W F x0 x1 x2 b a n cap (u.alloc o') := by
  have e : ∀ k, k < W.heap.size → (u.alloc o').heap[k]? = (u.alloc o).heap[k]? := fun k hk => by
    have h1 := ((Below.refl u.heap.size u).alloc (Nat.le_refl _) o).block k (by omega)
    have h2 := ((Below.refl u.heap.size u).alloc (Nat.le_refl _) o').block k (by omega)
    exact h2.trans h1.symm
  obtain ⟨hs, ha⟩ := hd_of h
  have hb := h.2.2.2.out.2.2.1
  refine hd_mk ⟨?_, ⟨ha.os, ha.tape, ha.output, by have := ha.size; simp at this ⊢; exact this, fun k hk hkb => (e k hk).trans (ha.block k hk hkb)⟩⟩ h.2.2.2.out.2.1 hb h.2.2.2.out.1
  obtain ⟨k, hk, hs⟩ := hs
  exact ⟨k, hk, (e b hb).trans hs⟩
end

theorem norm_le {zs zs' : List Int} {p p' : Nat} {inc inc' : Int} (g : Good zs p inc) (h : NormC zs p inc zs' p' inc') : zs'.length ≤ zs.length ∧ p' ≤ p := by
  have := g.p1
  rcases h with ⟨_, s0, hn, rfl, hle, hpp⟩ | ⟨i, hi, he, _, rfl, rfl, _⟩
  · exact ⟨by rw [List.length_take]; omega, hpp⟩
  · exact ⟨by rw [List.length_take]; omega, this⟩

set_option maxRecDepth 100000 in
set_option maxHeartbeats 6400000 in
theorem curveNormal_walk (W : World) (a : Option Addr) (n cap : Nat) (hrow : RowAt W a n cap) (t : Int) (ht : In64 t) :
    Calls Try.prog 4 #[.slice a n cap, .int .i64 t] W fun e w' => e = .returned (.bool true) ∧ Below W.heap.size W w' := by
  have HR := Lib.hid hrow
  clear hrow
  go_enter Try.func4, Try.ntmps4
  go_wp2_with fail
  refine (new_any a n cap _ HR.out).mono ?_
  rintro e w1 ⟨rfl, hb1, hz1, a1, n1, cap1, hs1⟩
  have HB1 := Lib.hid hb1
  have HS1 := Lib.hid hs1
  have Z1 := Lib.hid hz1
  clear hb1 hz1 hs1
  go_wp2_with fail
  refine (curve_any 9 (by omega) (by omega) _ a1 n1 cap1 _ HS1.out).mono ?_
  rintro e w2 ⟨a', n', cap', zs, p, inc, rfl, hs2, he2, hr2, ok, hx2⟩
  have OK := Lib.hid ok
  have hxb := Lib.hid (show ∀ x, a' = some x → ¬ x.block = W.heap.size from fun x hx => by have := hx2 x hx; have := Z1.out; omega)
  have HB2 := Lib.hid (HB1.out.trans (he2.below (Nat.le_refl _) HB1.out.size))
  have BX := Lib.hid (Cur3.new w2 (.slice a' n' cap') (.int .i64 p) (.int .i64 inc) 24)
  have RX := Lib.hid (hr2.alloc (.cells #[.slice a' n' cap', .int .i64 p, .int .i64 inc] 24))
  have SX := Lib.hid (hs2.under ((Below.refl _ _).alloc (Nat.le_refl _) (.cells #[.slice a' n' cap', .int .i64 p, .int .i64 inc] 24)))
  have HB3 := Lib.hid (HB2.out.alloc HB2.out.size (.cells #[.slice a' n' cap', .int .i64 p, .int .i64 inc] 24))
  have hFb : ¬ w2.heap.size = W.heap.size := by have := hs2.lt; omega
  have hlen := hr2.len
  have hp1 := ok.good.p1
  have hp8 := ok.p8
  have hf := ok.few
  have hn16 : n' ≤ 16 := by omega
  have HL := Lib.hid hlen
  clear hs2 he2 hr2 ok hx2 hlen hf
  go_wp2_with fail
  refine (normal_ok a' n' cap' zs p inc OK.out.good _ RX.out).mono ?_
  rintro e w3 ⟨a2, n2, cap2, zs2, p2, inc2, rfl, hb3, hr3, hn3, hx3⟩
  have HB4 := Lib.hid (HB3.out.trans (hb3.mono HB3.out.size))
  have HN := Lib.hid hn3
  have HX2 := Lib.hid (show ∀ x, a2 = some x → ¬ x.block = W.heap.size from fun x hx => by have := hx3 x hx; have := SX.out.lt; omega)
  have HL2 := Lib.hid hr3.len
  have BX4 := Lib.hid ((BX.out.below hb3).alloc (.cells #[.slice a2 n2 cap2, .int .i64 p2, .int .i64 inc2] 24))
  have RX4 := Lib.hid ((RX.out.under hb3).alloc (.cells #[.slice a2 n2 cap2, .int .i64 p2, .int .i64 inc2] 24))
  have SX4 := Lib.hid ((SX.out.under hb3).under ((Below.refl _ _).alloc (Nat.le_refl _) (.cells #[.slice a2 n2 cap2, .int .i64 p2, .int .i64 inc2] 24)))
  have BG4 := Lib.hid (Cur3.new w3 (.slice a2 n2 cap2) (.int .i64 p2) (.int .i64 inc2) 24)
  have RG4 := Lib.hid (hr3.alloc (.cells #[.slice a2 n2 cap2, .int .i64 p2, .int .i64 inc2] 24))
  have HB5 := Lib.hid (HB4.out.alloc HB4.out.size (.cells #[.slice a2 n2 cap2, .int .i64 p2, .int .i64 inc2] 24))
  have hGb : ¬ w3.heap.size = W.heap.size := by have := (SX.out.under hb3).lt; omega
  clear hb3 hr3 hn3 hx3 BX RX SX
  go_wp2_with fail
  generalize w3.alloc (.cells #[.slice a2 n2 cap2, .int .i64 p2, .int .i64 inc2] 24) = w4 at BX4 RX4 SX4 BG4 RG4 HB5 ⊢
  refine (normal_ok a2 n2 cap2 zs2 p2 inc2 (HN.out.good OK.out.good) _ RG4.out).mono ?_
  rintro e w5 ⟨a3, n3, cap3, zs3, p3, inc3, rfl, hb3, hr3, hn3, hx3⟩
  obtain ⟨rfl, rfl, rfl⟩ := HN.out.again OK.out.good hn3
  obtain rfl : n3 = n2 := hr3.len.symm.trans HL2.out
  have HX3 := Lib.hid (show ∀ x, a3 = some x → ¬ x.block = W.heap.size from fun x hx => by have := hx3 x hx; have := SX4.out.lt; omega)
  have BX5 := Lib.hid ((BX4.out.below hb3).alloc (.cells #[.slice a3 n3 cap3, .int .i64 p2, .int .i64 inc2] 24))
  have RX5 := Lib.hid ((RX4.out.under hb3).alloc (.cells #[.slice a3 n3 cap3, .int .i64 p2, .int .i64 inc2] 24))
  have SX5 := Lib.hid ((SX4.out.under hb3).under ((Below.refl _ _).alloc (Nat.le_refl _) (.cells #[.slice a3 n3 cap3, .int .i64 p2, .int .i64 inc2] 24)))
  have BG5 := Lib.hid ((BG4.out.below hb3).alloc (.cells #[.slice a3 n3 cap3, .int .i64 p2, .int .i64 inc2] 24))
  have RG5 := Lib.hid ((RG4.out.under hb3).alloc (.cells #[.slice a3 n3 cap3, .int .i64 p2, .int .i64 inc2] 24))
  have BH5 := Lib.hid (Cur3.new w5 (.slice a3 n3 cap3) (.int .i64 p2) (.int .i64 inc2) 24)
  have RH5 := Lib.hid (hr3.alloc (.cells #[.slice a3 n3 cap3, .int .i64 p2, .int .i64 inc2] 24))
  have HB6 := Lib.hid ((HB5.out.trans (hb3.mono HB5.out.size)).alloc (HB5.out.trans (hb3.mono HB5.out.size)).size (.cells #[.slice a3 n3 cap3, .int .i64 p2, .int .i64 inc2] 24))
  have hHb : ¬ w5.heap.size = W.heap.size := by have := (SX4.out.under hb3).lt; omega
  clear hb3 hr3 hn3 hx3 BX4 RX4 SX4 BG4 RG4 HB5 HB4 HB3 HB2 HB1
  go_wp2_with fail
  generalize w5.alloc (.cells #[.slice a3 n3 cap3, .int .i64 p2, .int .i64 inc2] 24) = w6 at BX5 RX5 SX5 BG5 RG5 BH5 RH5 HB6 ⊢
  have hbl := SX5.out.lt
  have HD0 := Lib.hid (hd_mk (Held.start SX5.out).drew hFb hbl BX5.out)
  go_cut [11, 12] (fun s11 s12 wx => ∃ (K : Nat) (a4 : Option Addr) (cap4 : Nat), s11 = .pointer (some ⟨K, 0, none⟩) ∧ s12 = .int .i64 0 ∧ w6.heap.size ≤ K ∧ (∀ x, a4 = some x → ¬ x.block = W.heap.size) ∧ Hid (Held w6 W.heap.size a1 n1 cap1 wx) ∧ Hid (Cur3 wx K (.slice a4 n3 cap4) (.int .i64 p2) (.int .i64 inc2)) ∧ Hid (RowZ wx a4 n3 cap4 zs2))
  case first =>
    go_region_held3 (fun w' => w'.cell? ⟨w2.heap.size, 0, none⟩ = some (.slice a' n' cap') ∧ w'.cell? ⟨w2.heap.size, 1, none⟩ = some (.int .i64 p) ∧ w'.cell? ⟨w2.heap.size, 2, none⟩ = some (.int .i64 inc) ∧
        Hid (Cur3 w6 w2.heap.size (.slice a' n' cap') (.int .i64 p) (.int .i64 inc) ∧ ¬ w2.heap.size = W.heap.size ∧ W.heap.size < w6.heap.size ∧ Held w6 W.heap.size a1 n1 cap1 w'))
      (first | with_reducible exact HD0.out | with_reducible exact hd_below (by assumption) hb4 | with_reducible exact hd_below (by assumption) hb3 | with_reducible exact hd_call (by assumption) hs2 he2 | with_reducible exact hd_call (by assumption) hs1 he1 | with_reducible exact hd_alloc (by assumption) _ | with_reducible exact hd_allocD (by assumption) _ | with_reducible exact hd_swap (by assumption) hzd _ | with_reducible exact hd_set (by assumption) (Nat.le_refl _) _ _ _ | with_reducible exact hd_set (by assumption) hza _ _ _ | with_reducible exact hd_set (by assumption) hzb _ _ _ | with_reducible exact hd_set (by assumption) hzc _ _ _)
      (first
        | (go_at_call 24; ((with_reducible refine (n_any 20 (by omega) (by omega) W.heap.size a1 n1 cap1 _ ((hd_of (by assumption)).at SX5.out)).mono ?_); rintro e wa ⟨m1, hm1, rfl, hs1, he1⟩; have hza : w6.heap.size ≤ wa.heap.size := (by rw [he1.size]; exact (hd_of (by assumption)).ap.size); first | (have KN1 := Lib.hid ((Cur3.new w6 (.slice none 0 0) (.int .i64 0) (.int .i64 0) 24).drewL.apart he1.apart (by omega))) | skip))
        | (go_at_call 24; ((with_reducible refine (n_any 5 (by omega) (by omega) W.heap.size a1 n1 cap1 _ ((hd_of (by assumption)).at SX5.out)).mono ?_); rintro e wb ⟨m2, hm2, rfl, hs2, he2⟩; have hzb : w6.heap.size ≤ wb.heap.size := (by rw [he2.size]; exact (hd_of (by assumption)).ap.size); (first | (have KN2 := Lib.hid (KN1.out.apart he2.apart (by omega))) | (have KN2 := Lib.hid ((Cur3.new wa (.slice none 0 0) (.int .i64 0) (.int .i64 0) 24).apart he2.apart (by omega))) | skip); have hmw : IntKind.i64.wrap (1 + m2) = 1 + m2 := IntWalk.i64_in _ ⟨by omega, by omega⟩))
        | (go_at_call 31; refine (longer_same (by omega) a' n' cap' zs p inc OK.out m1 (1 + m2) (by omega) (by omega) (by omega) (by omega) _ (RX5.out.apart (hd_of (by assumption)).ap hxb.out)).mono ?_; rintro e wc ⟨a5, n5, cap5, zs5, p5, inc5, rfl, hb3, hr5, hg5, hv5, _, _⟩; have hzc : w6.heap.size ≤ wc.heap.size := Nat.le_trans (hd_of (by assumption)).ap.size hb3.size; first | (have KN3 := Lib.hid (KN2.out.below hb3)) | (have KN3 := Lib.hid ((Cur3.new wb (.slice none 0 0) (.int .i64 0) (.int .i64 0) 24).below hb3)) | skip)
        | (go_at_call 13; refine (normal_ok a5 n5 cap5 zs5 p5 inc5 hg5 _ (by first | exact hr5 | exact hr5.alloc _)).mono ?_; rintro e wd ⟨a4, n4, cap4, zs4, p4, inc4, rfl, hb4, hr4, hn4, hx4⟩; have hzd : w6.heap.size ≤ wd.heap.size := Nat.le_trans (hd_of (by assumption)).ap.size hb4.size; first | (have KN4 := Lib.hid (KN3.out.below hb4); obtain ⟨k0, k1, k2, l0, l1, l2⟩ := KN4.out) | (have KN4 := Lib.hid ((Cur3.new wc (.slice none 0 0) (.int .i64 0) (.int .i64 0) 24).below hb4); obtain ⟨k0, k1, k2, l0, l1, l2⟩ := KN4.out) | skip))
    all_goals go_wp2_with fail
    all_goals go_meet
    all_goals
      obtain ⟨rfl, rfl, rfl⟩ : zs2 = zs4 ∧ p2 = p4 ∧ inc2 = inc4 := HN.out.canon OK.out.good hg5 hn4 (fun t => (hv5 t).symm)
      obtain rfl : n3 = n4 := HL2.out.symm.trans hr4.len
      have hw6 : ∀ x, a4 = some x → wc.heap.size ≤ x.block := fun x h => by have := hx4 x h; first | exact this | (simp at this; omega)
      have HX4 : ∀ x, a4 = some x → ¬ x.block = W.heap.size := fun x h => by have := hw6 x h; omega
      first
        | exact ⟨wd.heap.size, a4, cap4, rfl, rfl, hzd, HX4, hd_of (by assumption), Cur3.new wd _ _ _ _, hr4.alloc _⟩
        | exact ⟨_, a4, cap4, rfl, rfl, (by first | exact Nat.le_refl _ | assumption), HX4, hd_of (by assumption), KN4.out.set _ _ _, ((hr4.store (fun x h _ => by have := hw6 x h; have := KN3.out.lt; omega) _ _).store (fun x h _ => by have := hw6 x h; have := KN3.out.lt; omega) _ _).store (fun x h _ => by have := hw6 x h; have := KN3.out.lt; omega) _ _⟩
        | exact ⟨_, a4, cap4, rfl, rfl, (by first | exact Nat.le_refl _ | assumption), HX4, hd_of (by assumption), KN4.out.set _ _ _, ((hr4.store (fun x h _ => by have := hx4 x h; simp at this; omega) _ _).store (fun x h _ => by have := hx4 x h; simp at this; omega) _ _).store (fun x h _ => by have := hx4 x h; simp at this; omega) _ _⟩
  case rest =>
    obtain ⟨K, a4, cap4, rfl, rfl, hK, HX4, HD, BK, RK⟩ := hcut
    obtain ⟨w7, rfl⟩ : ∃ u : World, u = wc := ⟨_, rfl⟩
    have S7 := Lib.hid (HD.out.at SX5.out)
    have BX7 := Lib.hid (BX5.out.apart HD.out.ap hFb)
    have RX7 := Lib.hid (RX5.out.apart HD.out.ap hxb.out)
    have BG7 := Lib.hid (BG5.out.apart HD.out.ap hGb)
    have RG7 := Lib.hid (RG5.out.apart HD.out.ap HX2.out)
    have BH7 := Lib.hid (BH5.out.apart HD.out.ap hHb)
    have RH7 := Lib.hid (RH5.out.apart HD.out.ap HX3.out)
    have HB7 := Lib.hid (HB6.out.trans (HD.out.ap.below (Nat.le_refl _) HB6.out.size))
    obtain ⟨hle1, hle2⟩ := norm_le OK.out.good HN.out
    rw [HL.out, HL2.out] at hle1
    have hd1 : decide (n' < n3) = false := by simp; omega
    have hd2 : decide (p < p2) = false := by simp; omega
    have hHX4 := Lib.hid HX4
    clear HX4 BX5 RX5 SX5 BG5 RG5 BH5 RH5 HB6 hHb
    obtain ⟨c0, c1, c2, f0, f1, f2⟩ := BG7.out
    obtain ⟨d0, d1, d2, g0, g1, g2⟩ := BH7.out
    go_wp2_with fail
    clear c0 c1 c2 f0 f1 f2 d0 d1 d2 g0 g1 g2
    refine (rsame_any a2 n3 cap2 zs2 p2 inc2 a3 n3 cap3 zs2 p2 inc2 true (sameB_iff.2 ⟨rfl, rfl, rfl⟩) _ RG7.out RH7.out).mono ?_
    rintro e w8 ⟨rfl, hb8⟩
    have S8 := Lib.hid (S7.out.under hb8)
    have BX8 := Lib.hid (BX7.out.below hb8)
    have RX8 := Lib.hid (RX7.out.under hb8)
    have BG8 := Lib.hid (BG7.out.below hb8)
    have RG8 := Lib.hid (RG7.out.under hb8)
    have BK8 := Lib.hid (BK.out.below hb8)
    have RK8 := Lib.hid (RK.out.under hb8)
    have HB8 := Lib.hid (HB7.out.trans (hb8.mono HB7.out.size))
    clear hb8
    obtain ⟨c0, c1, c2, f0, f1, f2⟩ := BG8.out
    obtain ⟨d0, d1, d2, g0, g1, g2⟩ := BK8.out
    go_wp2_with fail
    clear c0 c1 c2 f0 f1 f2 d0 d1 d2 g0 g1 g2
    refine (rsame_any a2 n3 cap2 zs2 p2 inc2 a4 n3 cap4 zs2 p2 inc2 true (sameB_iff.2 ⟨rfl, rfl, rfl⟩) _ RG8.out RK8.out).mono ?_
    rintro e w9 ⟨rfl, hb9⟩
    have S9 := Lib.hid (S8.out.under hb9)
    have BX9 := Lib.hid (BX8.out.below hb9)
    have RX9 := Lib.hid (RX8.out.under hb9)
    have BG9 := Lib.hid (BG8.out.below hb9)
    have RG9 := Lib.hid (RG8.out.under hb9)
    have HB9 := Lib.hid (HB8.out.trans (hb9.mono HB8.out.size))
    clear hb9
    obtain ⟨c0, c1, c2, f0, f1, f2⟩ := BG9.out
    obtain ⟨d0, d1, d2, g0, g1, g2⟩ := BX9.out
    go_wp2_with fail
    clear c0 c1 c2 f0 f1 f2 d0 d1 d2 g0 g1 g2
    refine (mod_any t 1048577 ht (by omega) (by omega) _).mono ?_
    rintro e w10 ⟨rfl, rfl⟩
    obtain ⟨k1, hk1⟩ : ∃ k : Nat, t % 1048577 = (k : Int) := ⟨(t % 1048577).toNat, by omega⟩
    have hk1b : k1 ≤ 1048576 := by omega
    rw [hk1]
    clear hk1
    go_wp2_with fail
    refine (n_any 60 (by omega) (by omega) W.heap.size a1 n1 cap1 _ S9.out).mono ?_
    rintro e w11 ⟨z, hz, rfl, hs, he⟩
    obtain ⟨k2, rfl⟩ := Int.eq_ofNat_of_zero_le hz.1
    have hk2b : k2 ≤ 1048576 := by have := hz.2; omega
    have BX11 := Lib.hid ((BX9.out.apart he.apart hFb).alloc (.cells #[.int .i64 k1, .int .i64 k2] 3))
    have RX11 := Lib.hid ((RX9.out.apart he.apart hxb.out).alloc (.cells #[.int .i64 k1, .int .i64 k2] 3))
    have BG11 := Lib.hid ((BG9.out.apart he.apart hGb).alloc (.cells #[.int .i64 k1, .int .i64 k2] 3))
    have RG11 := Lib.hid ((RG9.out.apart he.apart HX2.out).alloc (.cells #[.int .i64 k1, .int .i64 k2] 3))
    have HB11 := Lib.hid ((HB9.out.trans (he.below (Nat.le_refl _))).alloc (HB9.out.trans (he.below (Nat.le_refl _))).size (.cells #[.int .i64 k1, .int .i64 k2] 3))
    have CC := Lib.hid (show ∀ k : Nat, k < 2 → ∃ v : Nat, v ≤ 1048576 ∧ (w11.alloc (.cells #[.int .i64 k1, .int .i64 k2] 3)).cell? ⟨w11.heap.size, k, none⟩ = some (.int .i64 v) from fun k hk => by
      match k, hk with
      | 0, _ => exact ⟨k1, hk1b, by go_simp⟩
      | 1, _ => exact ⟨k2, hk2b, by go_simp⟩)
    clear hs he hz BX9 RX9 BG9 RG9
    go_wp2_with fail
    generalize w11.alloc (.cells #[.int .i64 k1, .int .i64 k2] 3) = w12 at BX11 RX11 BG11 RG11 HB11 CC ⊢
    go_loopw [88] (fun s88 wx => ∃ k : Nat, s88 = .int .i64 k ∧ k ≤ 2 ∧ Hid (Below w12.heap.size w12 wx)) (fun s88 _ => 2 - (intOf s88).toNat)
    case atStart => exact ⟨0, rfl, by omega, Below.refl _ _⟩
    case round =>
      obtain ⟨k, rfl, hk, HBx⟩ := hrel
      obtain ⟨w13, rfl⟩ : ∃ u : World, u = wr := ⟨_, rfl⟩
      by_cases hlt : k < 2
      · obtain ⟨v, hv, hcv⟩ := CC.out k hlt
        have hcv2 := (HBx.out.cell (lt_of_cell hcv)).trans hcv
        have HV := Lib.hid (HN.out.values OK.out.good v)
        obtain ⟨v1, hv1⟩ : ∃ v1, atC zs p inc v = v1 := ⟨_, rfl⟩
        have HV1 := Lib.hid hv1
        have hlt' : (k : Int) < 2 := by omega
        have BX13 := Lib.hid (BX11.out.below HBx.out)
        have RX13 := Lib.hid (RX11.out.under HBx.out)
        have BG13 := Lib.hid (BG11.out.below HBx.out)
        have RG13 := Lib.hid (RG11.out.under HBx.out)
        clear hcv hv1
        obtain ⟨c0, c1, c2, f0, f1, f2⟩ := BX13.out
        go_wp2_with fail
        clear c0 c1 c2 f0 f1 f2 hcv2
        refine (value_at a' n' cap' zs p inc OK.out.good _ v rfl hv v1 HV1.out _ RX13.out).mono ?_
        rintro e w14 ⟨rfl, hb14⟩
        have BG14 := Lib.hid (BG13.out.below hb14)
        have RG14 := Lib.hid (RG13.out.under hb14)
        have HB14 := Lib.hid (HBx.out.trans (hb14.mono HBx.out.size))
        clear hb14
        obtain ⟨c0, c1, c2, f0, f1, f2⟩ := BG14.out
        go_wp2_with fail
        clear c0 c1 c2 f0 f1 f2
        refine (value_at a2 n3 cap2 zs2 p2 inc2 (HN.out.good OK.out.good) _ v rfl hv v1 (HV.out.trans HV1.out) _ RG14.out).mono ?_
        rintro e w15 ⟨rfl, hb15⟩
        have HB15 := Lib.hid (HB14.out.trans (hb15.mono HB14.out.size))
        have hne : (v1 != v1) = false := by simp
        clear hb15
        go_wp2_with fail
        go_roundw
        case rel => exact ⟨k + 1, by go_num, by omega, HB15⟩
        case measure => simp [intOf]; omega
      · obtain rfl : k = 2 := by omega
        go_wp2_with fail
        refine (awake_all _).mono ?_
        rintro e w14 ⟨rfl, hb14⟩
        go_wp2_with fail
        go_ret
        have hb := HB11.out.trans (HBx.out.mono HB11.out.size)
        exact ⟨rfl, hb.trans (hb14.mono hb.size)⟩

end Go.Proofs.Ytdakadgfnlpogaa
