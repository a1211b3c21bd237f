/- The walk of FractionAnswers. By the verifier's side. -/
import Derived.Test.YtkdpglpdcjhhkaaDoorAwake
import Derived.Test.YtkdpglpdcjhhkaaDoorRefParse
import Derived.Test.YtkdpglpdcjhhkaaDoorOdd
import Derived.Test.YtkdpglpdcjhhkaaDoorRefOps
import Derived.Deep.RegionHeld3
import Derived.Deep.DeepCutAuto
namespace Go.Proofs.YtkdpglpdcjhhkaaDoor
open Go.RowKit
set_option linter.unusedSimpArgs false

/-- A list of n fractions stands in block lb. -/
def Pairs (w : World) (lb n : Nat) : Prop := ∀ k, k < n → ∃ x y : Int, w.cell? ⟨lb, k * 2, none⟩ = some (.int .i64 x) ∧ w.cell? ⟨lb, k * 2 + 1, none⟩ = some (.int .i64 y) ∧ In64 x ∧ In64 y

theorem Pairs.under {w w' : World} {lb n : Nat} (h : Pairs w lb n) (hb : Below w.heap.size w w') : Pairs w' lb n := fun k hk => by
  obtain ⟨x, y, h1, h2, h3, h4⟩ := h k hk
  exact ⟨x, y, (hb.cell (lt_of_cell h1)).trans h1, (hb.cell (lt_of_cell h2)).trans h2, h3, h4⟩

theorem Apart.drew {b : Nat} {u v : World} (h : Apart b u v) : Apart b u v.drew := ⟨h.os, h.tape, h.output, h.size, h.block⟩

theorem srcOf {w0 w' : World} {pa pb p : Nat} {c d e f : Value} {a : Option Addr} {n cap : Nat}
    (h : w'.cell? ⟨pa, 0, none⟩ = some c ∧ w'.cell? ⟨pa, 1, none⟩ = some d ∧ w'.cell? ⟨pb, 0, none⟩ = some e ∧ w'.cell? ⟨pb, 1, none⟩ = some f ∧ Hid (SrcAt w' p a n cap ∧ Apart p w0 w')) : SrcAt w' p a n cap := h.2.2.2.2.out.1

theorem keepS {w0 w w' : World} {pa pb p : Nat} {c d e f : Value} {a : Option Addr} {n cap : Nat} (hs : SrcAt w' p a n cap) (he : Apart p w w')
    (h : w.cell? ⟨pa, 0, none⟩ = some c ∧ w.cell? ⟨pa, 1, none⟩ = some d ∧ w.cell? ⟨pb, 0, none⟩ = some e ∧ w.cell? ⟨pb, 1, none⟩ = some f ∧ Hid (SrcAt w p a n cap ∧ Apart p w0 w)) (hpa : ¬ pa = p) (hpb : ¬ pb = p) :
    w'.cell? ⟨pa, 0, none⟩ = some c ∧ w'.cell? ⟨pa, 1, none⟩ = some d ∧ w'.cell? ⟨pb, 0, none⟩ = some e ∧ w'.cell? ⟨pb, 1, none⟩ = some f ∧ Hid (SrcAt w' p a n cap ∧ Apart p w0 w') := by
  obtain ⟨h1, h2, h3, h4, h5⟩ := h
  obtain ⟨g1, _⟩ := acell he
  exact ⟨(g1 _ _ (lt_of_cell h1) hpa).trans h1, (g1 _ _ (lt_of_cell h2) hpa).trans h2, (g1 _ _ (lt_of_cell h3) hpb).trans h3, (g1 _ _ (lt_of_cell h4) hpb).trans h4, hs, h5.out.2.trans he⟩

theorem keepA {w0 w : World} {o : Obj} {pa pb p : Nat} {c d e f : Value} {a : Option Addr} {n cap : Nat}
    (h : w.cell? ⟨pa, 0, none⟩ = some c ∧ w.cell? ⟨pa, 1, none⟩ = some d ∧ w.cell? ⟨pb, 0, none⟩ = some e ∧ w.cell? ⟨pb, 1, none⟩ = some f ∧ Hid (SrcAt w p a n cap ∧ Apart p w0 w)) :
    (w.alloc o).cell? ⟨pa, 0, none⟩ = some c ∧ (w.alloc o).cell? ⟨pa, 1, none⟩ = some d ∧ (w.alloc o).cell? ⟨pb, 0, none⟩ = some e ∧ (w.alloc o).cell? ⟨pb, 1, none⟩ = some f ∧ Hid (SrcAt (w.alloc o) p a n cap ∧ Apart p w0 (w.alloc o)) := by
  obtain ⟨h1, h2, h3, h4, h5⟩ := h
  have hb : Below w.heap.size w (w.alloc o) := (Below.refl _ _).alloc (Nat.le_refl _) _
  exact ⟨(hb.cell (lt_of_cell h1)).trans h1, (hb.cell (lt_of_cell h2)).trans h2, (hb.cell (lt_of_cell h3)).trans h3, (hb.cell (lt_of_cell h4)).trans h4, h5.out.1.under hb, h5.out.2.alloc _⟩

theorem keepB {w0 w w' : World} {p : Nat} {x d : Value} (hb : Below w.heap.size w w') (h : w.cell? ⟨p, 0, none⟩ = some x ∧ w.cell? ⟨p, 1, none⟩ = some d ∧ Hid (Below w0.heap.size w0 w)) :
    w'.cell? ⟨p, 0, none⟩ = some x ∧ w'.cell? ⟨p, 1, none⟩ = some d ∧ Hid (Below w0.heap.size w0 w') :=
  ⟨(hb.cell (lt_of_cell h.1)).trans h.1, (hb.cell (lt_of_cell h.2.1)).trans h.2.1, h.2.2.out.trans (hb.mono h.2.2.out.size)⟩

theorem libOf {w0 w : World} {p : Nat} {x d : Value} (h0 : Lib0 w0) (h : w.cell? ⟨p, 0, none⟩ = some x ∧ w.cell? ⟨p, 1, none⟩ = some d ∧ Hid (Below w0.heap.size w0 w)) : Lib0 w := h0.below h.2.2.out

theorem format_size (x d : Int) : (⟨(formatL x d).toArray⟩ : ByteArray).size ≤ 60 := by
  show (List.toArray _).size ≤ _
  rw [List.size_toArray]
  unfold formatL
  split
  · rename_i h
    have hb := (okF_iff x d).1 h
    have q1 := Lib.itoa_length_le x (by omega) (by omega)
    have q2 := Lib.itoa_length_le d (by omega) (by omega)
    split
    · omega
    · rw [List.length_append, List.length_cons]; omega
  · exact Nat.zero_le _

theorem keep12 {w0 w w' : World} {p1 p2 p3 p4 p5 p6 : Nat} {va vb vc vd ve vf vg vh vi vj vk vl : Value} (hb : Below w.heap.size w w') (h : w.cell? ⟨p1, 0, none⟩ = some va ∧ w.cell? ⟨p1, 1, none⟩ = some vb ∧ w.cell? ⟨p2, 0, none⟩ = some vc ∧ w.cell? ⟨p2, 1, none⟩ = some vd ∧ w.cell? ⟨p3, 0, none⟩ = some ve ∧ w.cell? ⟨p3, 1, none⟩ = some vf ∧ w.cell? ⟨p4, 0, none⟩ = some vg ∧ w.cell? ⟨p4, 1, none⟩ = some vh ∧ w.cell? ⟨p5, 0, none⟩ = some vi ∧ w.cell? ⟨p5, 1, none⟩ = some vj ∧ w.cell? ⟨p6, 0, none⟩ = some vk ∧ w.cell? ⟨p6, 1, none⟩ = some vl ∧ Hid (Below w0.heap.size w0 w)) :
    w'.cell? ⟨p1, 0, none⟩ = some va ∧ w'.cell? ⟨p1, 1, none⟩ = some vb ∧ w'.cell? ⟨p2, 0, none⟩ = some vc ∧ w'.cell? ⟨p2, 1, none⟩ = some vd ∧ w'.cell? ⟨p3, 0, none⟩ = some ve ∧ w'.cell? ⟨p3, 1, none⟩ = some vf ∧ w'.cell? ⟨p4, 0, none⟩ = some vg ∧ w'.cell? ⟨p4, 1, none⟩ = some vh ∧ w'.cell? ⟨p5, 0, none⟩ = some vi ∧ w'.cell? ⟨p5, 1, none⟩ = some vj ∧ w'.cell? ⟨p6, 0, none⟩ = some vk ∧ w'.cell? ⟨p6, 1, none⟩ = some vl ∧ Hid (Below w0.heap.size w0 w') := by
  obtain ⟨h1, h2, h3, h4, h5, h6, h7, h8, h9, h10, h11, h12, h13⟩ := h
  exact ⟨(hb.cell (lt_of_cell h1)).trans h1, (hb.cell (lt_of_cell h2)).trans h2, (hb.cell (lt_of_cell h3)).trans h3, (hb.cell (lt_of_cell h4)).trans h4, (hb.cell (lt_of_cell h5)).trans h5, (hb.cell (lt_of_cell h6)).trans h6,
    (hb.cell (lt_of_cell h7)).trans h7, (hb.cell (lt_of_cell h8)).trans h8, (hb.cell (lt_of_cell h9)).trans h9, (hb.cell (lt_of_cell h10)).trans h10, (hb.cell (lt_of_cell h11)).trans h11, (hb.cell (lt_of_cell h12)).trans h12, h13.out.trans (hb.mono h13.out.size)⟩

set_option maxRecDepth 100000 in
set_option maxHeartbeats 12800000 in
theorem fractionAnswers_walk (W : World) (h0 : Lib0 W) (an ad : Int) (ha1 : In64 an) (ha2 : In64 ad) (bn bd : Int) (hb1 : In64 bn) (hb2 : In64 bd) (num : Int) (hnum : In64 num) (den : Int) (hden : In64 den)
    (s : ByteArray) (hlim : s.size ≤ 140737488355328) (a : Option Addr) (n cap : Nat) (hrow : RowAt W a n cap) :
    Calls Tryd.prog 3 #[.agg #[.int .i64 an, .int .i64 ad], .agg #[.int .i64 bn, .int .i64 bd], .int .i64 num, .int .i64 den, .string s, .slice a n cap] W fun e w' => e = .returned (.bool true) ∧ Below W.heap.size W w' := by
  have H0 := Lib.hid h0
  have HR := Lib.hid hrow
  clear h0 hrow
  have HB0 : Hid (Below W.heap.size W ((W.alloc (.cells #[.int .i64 an, .int .i64 ad] 23)).alloc (.cells #[.int .i64 bn, .int .i64 bd] 23))) := Lib.hid (((Below.refl _ _).alloc (Nat.le_refl _) _).alloc (by simp) _)
  by_cases hlen : 100 < s.size
  · go_enter Tryd.func3, Tryd.ntmps3
    go_wp2_with fail
    refine (awake_all _ (H0.out.below HB0.out)).mono ?_
    rintro e w1 ⟨rfl, hb⟩
    go_wp2_with fail
    go_ret
    exact ⟨rfl, HB0.out.trans (hb.mono HB0.out.size)⟩
  · have hl2 : s.size < 4294967281 := by omega
    have hl3 : s.size ≤ 100 := by omega
    go_enter Tryd.func3, Tryd.ntmps3
    go_wp2_with fail
    refine (new_any a n cap _ (HR.out.under HB0.out)).mono ?_
    rintro e w1 ⟨rfl, hb1', hz1, a1, n1, cap1, hs1⟩
    obtain ⟨A1, B1⟩ := boxes2 hb1'
    have hsz0 : ((W.alloc (.cells #[.int .i64 an, .int .i64 ad] 23)).alloc (.cells #[.int .i64 bn, .int .i64 bd] 23)).heap.size = W.heap.size + 1 + 1 := by simp
    rw [hsz0] at hs1
    have HS1 := Lib.hid hs1
    have HB1 := Lib.hid (HB0.out.trans (hb1'.mono HB0.out.size))
    have PA1 := Lib.hid A1
    have PB1 := Lib.hid B1
    clear hb1' hz1 hs1 A1 B1 hsz0
    have hne1 : ¬ W.heap.size = W.heap.size + 1 + 1 := by omega
    have hne2 : ¬ W.heap.size + 1 = W.heap.size + 1 + 1 := by omega
    go_wp2_with fail
    refine (odd_any _ a1 n1 cap1 _ HS1.out).mono ?_
    rintro e w2 ⟨o1, ho1, rfl, hs, he⟩
    have HS2 := Lib.hid hs
    have HB2 := Lib.hid (HB1.out.trans (he.below (up2 _) HB1.out.size))
    have PA2 := Lib.hid (PA1.out.apart he hne1)
    have PB2 := Lib.hid (PB1.out.apart he hne2)
    clear hs he PA1 PB1
    go_wp2_with fail
    refine (odd_any _ a1 n1 cap1 _ HS2.out).mono ?_
    rintro e w3 ⟨o2, ho2, rfl, hs, he⟩
    have HS3 := Lib.hid hs
    have HB3 := Lib.hid (HB2.out.trans (he.below (up2 _) HB2.out.size))
    have PA3 := Lib.hid (PA2.out.apart he hne1)
    have PB3 := Lib.hid (PB2.out.apart he hne2)
    clear hs he PA2 PB2
    go_wp2_with fail
    refine (n_any 40 (by omega) (by omega) _ a1 n1 cap1 _ HS3.out).mono ?_
    rintro e w4 ⟨o3, ho3, rfl, hs, he⟩
    have HS4 := Lib.hid hs
    have HB4 := Lib.hid (HB3.out.trans (he.apart.below (up2 _) HB3.out.size))
    have PA4 := Lib.hid (PA3.out.apart he.apart hne1)
    have PB4 := Lib.hid (PB3.out.apart he.apart hne2)
    clear hs he PA3 PB3
    go_wp2_with fail
    refine (n_any 9 (by omega) (by omega) _ a1 n1 cap1 _ HS4.out).mono ?_
    rintro e w5 ⟨o4, ho4, rfl, hs, he⟩
    have HS5 := Lib.hid hs
    have HB5 := Lib.hid (HB4.out.trans (he.apart.below (up2 _) HB4.out.size))
    have PA5 := Lib.hid (PA4.out.apart he.apart hne1)
    have PB5 := Lib.hid (PB4.out.apart he.apart hne2)
    clear hs he PA4 PB4
    go_wp2_with fail
    have HL : Hid (∀ k, k < 3 → ∃ x y : Int, (w5.alloc (.cells #[.int .i64 num, .int .i64 den, .int .i64 o1, .int .i64 o2, .int .i64 (o3 - 20), .int .i64 (o4 - 4)] 28)).cell? ⟨w5.heap.size, k * 2, none⟩ = some (.int .i64 x) ∧ (w5.alloc (.cells #[.int .i64 num, .int .i64 den, .int .i64 o1, .int .i64 o2, .int .i64 (o3 - 20), .int .i64 (o4 - 4)] 28)).cell? ⟨w5.heap.size, k * 2 + 1, none⟩ = some (.int .i64 y) ∧ In64 x ∧ In64 y) := by
      intro k hk
      have hk3 : k = 0 ∨ k = 1 ∨ k = 2 := by omega
      rcases hk3 with rfl | rfl | rfl
      · exact ⟨num, den, by rw [World.cell?_alloc_new]; rfl, by rw [World.cell?_alloc_new]; rfl, hnum, hden⟩
      · exact ⟨o1, o2, by rw [World.cell?_alloc_new]; rfl, by rw [World.cell?_alloc_new]; rfl, ho1, ho2⟩
      · exact ⟨o3 - 20, o4 - 4, by rw [World.cell?_alloc_new]; rfl, by rw [World.cell?_alloc_new]; rfl, ⟨by omega, by omega⟩, ⟨by omega, by omega⟩⟩
    have hnew : Below w5.heap.size w5 (w5.alloc (.cells #[.int .i64 num, .int .i64 den, .int .i64 o1, .int .i64 o2, .int .i64 (o3 - 20), .int .i64 (o4 - 4)] 28)) := (Below.refl _ _).alloc (Nat.le_refl _) _
    have HSL := Lib.hid (HS5.out.under hnew)
    have HBL := Lib.hid (HB5.out.trans (hnew.mono HB5.out.size))
    have PAL := Lib.hid (PA5.out.below hnew)
    have PBL := Lib.hid (PB5.out.below hnew)
    have hLs : w5.heap.size < (w5.alloc (.cells #[.int .i64 num, .int .i64 den, .int .i64 o1, .int .i64 o2, .int .i64 (o3 - 20), .int .i64 (o4 - 4)] 28)).heap.size := by simp
    clear hnew PA5 PB5
    generalize w5.alloc (.cells #[.int .i64 num, .int .i64 den, .int .i64 o1, .int .i64 o2, .int .i64 (o3 - 20), .int .i64 (o4 - 4)] 28) = wL at HL HSL HBL PAL PBL hLs ⊢
    go_loopw [63] (fun vk wr => ∃ k : Nat, vk = .int .i64 k ∧ k ≤ 3 ∧ Hid (Below wL.heap.size wL wr)) (fun vk _ => 3 - (intOf vk).toNat)
    case atStart => exact ⟨0, rfl, by omega, Below.refl _ _⟩
    case round =>
      obtain ⟨k, rfl, hk, HBr⟩ := hrel
      by_cases hlt : k < 3
      ·
        obtain ⟨x, y, cx, cy, hx, hy⟩ := HL.out k hlt
        have ex : wr.cell? ⟨w5.heap.size, k * 2, none⟩ = some (.int .i64 x) := (HBr.out.cell (p := ⟨w5.heap.size, k * 2, none⟩) hLs).trans cx
        have ey : wr.cell? ⟨w5.heap.size, k * 2 + 1, none⟩ = some (.int .i64 y) := (HBr.out.cell (p := ⟨w5.heap.size, k * 2 + 1, none⟩) hLs).trans cy
        clear cx cy
        obtain ⟨⟨rn, rd, re⟩, hr⟩ : ∃ r, newF x y = r := ⟨_, rfl⟩
        have HN := Lib.hid hr
        clear hr
        go_wp2_with fail
        refine (new_all x y hx hy _).mono ?_
        rintro e w6 ⟨he, hb⟩
        rw [HN.out] at he
        subst he
        have hz6 : wr.heap.size < w6.heap.size := by have := hb.size; simp at this; omega
        have HB6 := Lib.hid ((HBr.out.alloc HBr.out.size _).trans (hb.mono (HBr.out.alloc HBr.out.size _).size))
        have f0 : w6.cell? ⟨wr.heap.size, 0, none⟩ = some (.int .i64 x) := (hb.cell (p := ⟨wr.heap.size, 0, none⟩) (by simp)).trans (by go_simp)
        have f1 : w6.cell? ⟨wr.heap.size, 1, none⟩ = some (.int .i64 y) := (hb.cell (p := ⟨wr.heap.size, 1, none⟩) (by simp)).trans (by go_simp)
        clear hb ex ey
        obtain ⟨l1, l2, l3, l4⟩ := lt5 hz6
        go_wp2_with fail
        refine (rnew_all x y hx hy _).mono ?_
        rintro e w7 ⟨he, hb⟩
        rw [HN.out] at he
        subst he
        have P7 := Lib.hid ((Box.new w6 rn rd 23).below hb)
        have HB7 := Lib.hid ((HB6.out.alloc HB6.out.size _).trans (hb.mono (HB6.out.alloc HB6.out.size _).size))
        obtain ⟨p0, p1, p2, p3⟩ := P7.out
        obtain ⟨l5, l6, l7, l8⟩ := lt5 P7.out.lt
        clear hb f0 f1 l1 l2 l3 l4
        go_wp2_with fail
        go_roundw
        case rel => exact ⟨k + 1, congrArg (Value.int IntKind.i64) (by omega), by omega, HB7.out.alloc HB7.out.size _⟩
        case measure => simp [intOf]; omega
      ·
        obtain rfl : k = 3 := by omega
        obtain ⟨wq, rfl⟩ : ∃ u : World, u = wr := ⟨_, rfl⟩
        have HSq := Lib.hid (HSL.out.under HBr.out)
        have HBq := Lib.hid (HBL.out.trans (HBr.out.mono HBL.out.size))
        obtain ⟨a0, a1', _, _⟩ := PAL.out.below HBr.out
        obtain ⟨b0, b1', _, _⟩ := PBL.out.below HBr.out
        have hpa : ¬ W.heap.size = W.heap.size + 1 + 1 := by omega
        have hpb : ¬ W.heap.size + 1 = W.heap.size + 1 + 1 := by omega
        go_upto_region 12 with fail
        go_cut [20] (fun s20 wx => ∃ lb : Nat, s20 = .slice (some ⟨lb, 0, none⟩) 5 5 ∧ lb < wx.heap.size ∧ Hid (Below W.heap.size W wx) ∧ Hid (Pairs wx lb 5))
        case first =>
          go_region_held3 (fun w' => w'.cell? ⟨W.heap.size, 0, none⟩ = some (.int .i64 an) ∧ w'.cell? ⟨W.heap.size, 1, none⟩ = some (.int .i64 ad) ∧ w'.cell? ⟨W.heap.size + 1, 0, none⟩ = some (.int .i64 bn) ∧ w'.cell? ⟨W.heap.size + 1, 1, none⟩ = some (.int .i64 bd) ∧ Hid (SrcAt w' (W.heap.size + 1 + 1) a1 n1 cap1 ∧ Apart (W.heap.size + 1 + 1) wq w'))
            (first | exact ⟨a0, a1', b0, b1', HSq.out, Apart.refl _ _⟩ | exact ⟨a0, a1', b0, b1', HSq.out.under (Below.refl _ _).drew, (Apart.refl _ _).drew⟩ | exact keepS (by assumption) (by assumption) (by assumption) hpa hpb | exact keepA (by assumption))
            (first
              | (go_at_call 15; refine (ratio_any _ a1 n1 cap1 _ (srcOf (by assumption))).mono ?_; rintro e w' ⟨x, y, hxy, rfl, hs, he⟩)
              | (go_at_call 16; refine (frac_any 5 4 (by omega) (by omega) (by omega) (by omega) _ a1 n1 cap1 _ (srcOf (by assumption))).mono ?_; rintro e w' ⟨x, y, hxy, rfl, hs, he⟩))
          go_wp2_with fail
          go_meet
          rename_i w6 x6 y6 xy6 hs6 he6 w7 x7 y7 xy7 hs7 he7 hH
          refine ⟨w'.heap.size, rfl, by simp, HBq.out.trans (hH.2.2.2.2.out.2.below (up2 _) HBq.out.size), ?_⟩
          intro k hk
          have hk5 : k = 0 ∨ k = 1 ∨ k = 2 ∨ k = 3 ∨ k = 4 := by omega
          rcases hk5 with rfl | rfl | rfl | rfl | rfl
          · exact ⟨an, ad, by rw [World.cell?_alloc_new]; rfl, by rw [World.cell?_alloc_new]; rfl, ha1, ha2⟩
          · exact ⟨bn, bd, by rw [World.cell?_alloc_new]; rfl, by rw [World.cell?_alloc_new]; rfl, hb1, hb2⟩
          · exact ⟨x6, y6, by rw [World.cell?_alloc_new]; rfl, by rw [World.cell?_alloc_new]; rfl, xy6.1, xy6.2⟩
          · exact ⟨x7, y7, by rw [World.cell?_alloc_new]; rfl, by rw [World.cell?_alloc_new]; rfl, xy7.1, xy7.2⟩
          · exact ⟨x, y, by rw [World.cell?_alloc_new]; rfl, by rw [World.cell?_alloc_new]; rfl, ⟨by omega, by omega⟩, ⟨by omega, by omega⟩⟩
        case rest =>
          obtain ⟨wB, rfl⟩ : ∃ u : World, u = wc := ⟨_, rfl⟩
          obtain ⟨lb, rfl, hlb, HBB, HPB⟩ := hcut
          clear a0 a1' b0 b1' HSq HBq PAL PBL HSL HBL HL HBr hpa hpb
          go_wp2_with fail
          go_loopw [103] (fun vk wr => ∃ k : Nat, vk = .int .i64 k ∧ k ≤ 5 ∧ Hid (Below wB.heap.size wB wr)) (fun vk _ => 5 - (intOf vk).toNat)
          case atStart => exact ⟨0, rfl, by omega, Below.refl _ _⟩
          case round =>
            obtain ⟨k, rfl, hk, HBr⟩ := hrel
            obtain ⟨wr0, rfl⟩ : ∃ u : World, u = wr := ⟨_, rfl⟩
            by_cases hlt : k < 5
            ·
              obtain ⟨x, d, cx, cd, hx, hd⟩ := HPB.out k hlt
              have ex : wr0.cell? ⟨lb, k * 2, none⟩ = some (.int .i64 x) := (HBr.out.cell (p := ⟨lb, k * 2, none⟩) hlb).trans cx
              have ed : wr0.cell? ⟨lb, k * 2 + 1, none⟩ = some (.int .i64 d) := (HBr.out.cell (p := ⟨lb, k * 2 + 1, none⟩) hlb).trans cd
              clear cx cd
              go_wp2_with fail
              refine (rformat_all x d _).mono ?_
              rintro e w6 ⟨rfl, hb⟩
              have P6 := Lib.hid ((Box.new wr0 x d 23).below hb)
              have HB6 := Lib.hid ((HBr.out.alloc HBr.out.size _).trans (hb.mono (HBr.out.alloc HBr.out.size _).size))
              clear hb ex ed
              obtain ⟨tx, htx⟩ : ∃ tx : ByteArray, tx = ⟨(formatL x d).toArray⟩ := ⟨_, rfl⟩
              rw [← htx]
              have TX := Lib.hid htx
              have htl : tx.size ≤ 60 := by rw [htx]; exact format_size x d
              clear htx
              obtain ⟨c, hc⟩ : ∃ c, okF x d = c := ⟨_, rfl⟩
              obtain ⟨f, hf⟩ : ∃ f, floorF x d = f := ⟨_, rfl⟩
              obtain ⟨g, hg⟩ : ∃ g, ceilF x d = g := ⟨_, rfl⟩
              have HC := Lib.hid hc
              have HF := Lib.hid hf
              have HG := Lib.hid hg
              have HW6 := Lib.hid (HBB.out.trans (HB6.out.mono HBB.out.size))
              have L6 := Lib.hid (H0.out.below HW6.out)
              obtain ⟨c0, c1, _, _⟩ := P6.out
              clear hc hf hg
              go_upto_region 17 with fail
              go_cut [133] (fun sv wx => sv = .bool false ∧ Hid (Below w6.heap.size w6 wx))
              case first =>
                go_region_held3 (fun w' => w'.cell? ⟨wr0.heap.size, 0, none⟩ = some (.int .i64 x) ∧ w'.cell? ⟨wr0.heap.size, 1, none⟩ = some (.int .i64 d) ∧ Hid (Below w6.heap.size w6 w'))
                  (first | exact ⟨c0, c1, Below.refl _ _⟩ | exact ⟨c0, c1, (Below.refl _ _).drew⟩ | exact keepB (by assumption) (by assumption))
                  (first
                    | (go_at_call 18; refine (valid_all x d _ HC.out _).mono ?_; rintro e w' ⟨rfl, hb⟩)
                    | (go_at_call 19; refine (rvalid_any x d _ HC.out _).mono ?_; rintro e w' ⟨rfl, hb⟩)
                    | (go_at_call 20; refine (floor_all x d _).mono ?_; rintro e w' ⟨he, hb⟩; rw [HF.out] at he; subst he)
                    | (go_at_call 21; refine (rfloor_all x d _).mono ?_; rintro e w' ⟨he, hb⟩; rw [HF.out] at he; subst he)
                    | (go_at_call 22; refine (ceil_all x d hx _).mono ?_; rintro e w' ⟨he, hb⟩; rw [HG.out] at he; subst he)
                    | (go_at_call 23; refine (rceil_all x d _).mono ?_; rintro e w' ⟨he, hb⟩; rw [HG.out] at he; subst he)
                    | (go_at_call 24; refine (format_all x d _ (libOf L6.out (by assumption))).mono ?_; rintro e w' ⟨he, hb⟩; rw [← TX.out] at he; subst he))
                go_wp2_with fail
                go_meet
                rename_i hH
                exact ⟨rfl, hH.2.2⟩
              case rest =>
                obtain ⟨w7, rfl⟩ : ∃ u : World, u = wc := ⟨_, rfl⟩
                obtain ⟨rfl, HB7⟩ := hcut
                clear c0 c1
                have PX7 := Lib.hid (P6.out.below HB7.out)
                have HBa := Lib.hid (HB6.out.trans (HB7.out.mono HB6.out.size))
                have HPa := Lib.hid (HPB.out.under (HBa.out))
                have hla : lb < w7.heap.size := Nat.lt_of_lt_of_le hlb HBa.out.size
                go_wp2_with fail
                go_loopw [136] (fun vk wr => ∃ k : Nat, vk = .int .i64 k ∧ k ≤ 5 ∧ Hid (Below w7.heap.size w7 wr)) (fun vk _ => 5 - (intOf vk).toNat)
                case atStart => exact ⟨0, rfl, by omega, Below.refl _ _⟩
                case round =>
                  obtain ⟨j, rfl, hj, HBs⟩ := hrel
                  obtain ⟨w20, rfl⟩ : ∃ u : World, u = wr := ⟨_, rfl⟩
                  by_cases hjt : j < 5
                  · as_aux_lemma =>
                    obtain ⟨y, e, cy, ce, hy, he⟩ := HPa.out j hjt
                    have HB20 : Hid (Below w7.heap.size w7 w20) := HBs
                    have q20 : w7.heap.size ≤ w20.heap.size := HB20.out.size
                    have ey : w20.cell? ⟨lb, j * 2, none⟩ = some (.int .i64 y) := (HB20.out.cell (p := ⟨lb, j * 2, none⟩) hla).trans cy
                    have ee : w20.cell? ⟨lb, j * 2 + 1, none⟩ = some (.int .i64 e) := (HB20.out.cell (p := ⟨lb, j * 2 + 1, none⟩) hla).trans ce
                    have PX := Lib.hid (PX7.out.below HB20.out)
                    have hXw : wr0.heap.size < w7.heap.size := PX7.out.lt
                    clear cy ce
                    obtain ⟨⟨s1n, s1d, s1e⟩, hs1⟩ : ∃ r, addF x d y e = r := ⟨_, rfl⟩
                    obtain ⟨⟨s2n, s2d, s2e⟩, hs2⟩ : ∃ r, subF x d y e = r := ⟨_, rfl⟩
                    obtain ⟨⟨s3n, s3d, s3e⟩, hs3⟩ : ∃ r, mulF x d y e = r := ⟨_, rfl⟩
                    obtain ⟨⟨s4n, s4d, s4e⟩, hs4⟩ : ∃ r, divF x d y e = r := ⟨_, rfl⟩
                    obtain ⟨cmp, hs5⟩ : ∃ r, compareF x d y e = r := ⟨_, rfl⟩
                    have S1 := Lib.hid hs1
                    have S2 := Lib.hid hs2
                    have S3 := Lib.hid hs3
                    have S4 := Lib.hid hs4
                    have S5 := Lib.hid hs5
                    clear hs1 hs2 hs3 hs4 hs5
                    obtain ⟨X_0, X_1, X_2, X_3⟩ := PX.out
                    obtain ⟨X_4, X_5, X_6, X_7⟩ := lt5 PX.out.lt
                    go_wp2_with fail
                    refine (add_all x d y e _).mono ?_
                    rintro e w21 ⟨he, hb⟩
                    rw [S1.out] at he
                    subst he
                    have QX := Lib.hid (Box.below (Box.alloc PX.out _) hb)
                    have QY := Lib.hid (Box.below (Box.new _ _ _ _) hb)
                    have HB21 : Hid (Below w7.heap.size w7 w21) := Lib.hid (Below.trans (Below.alloc HB20.out (by have := HB20.out.size; simp; try omega) _) (hb.mono (Below.size (Below.alloc HB20.out (by have := HB20.out.size; simp; try omega) _))))
                    clear X_0 X_1 X_2 X_3 X_4 X_5 X_6 X_7 hb
                    clear PX
                    have PX := QX
                    clear QX
                    have PY := QY
                    clear QY
                    have q21 : w7.heap.size ≤ w21.heap.size := HB21.out.size
                    clear ey ee
                    have z21 : w20.heap.size < w21.heap.size := PY.out.lt
                    obtain ⟨X_0, X_1, X_2, X_3⟩ := PX.out
                    obtain ⟨X_4, X_5, X_6, X_7⟩ := lt5 PX.out.lt
                    obtain ⟨Y_0, Y_1, Y_2, Y_3⟩ := PY.out
                    obtain ⟨Y_4, Y_5, Y_6, Y_7⟩ := lt5 PY.out.lt
                    go_wp2_with fail
                    refine (radd_all x d y e _).mono ?_
                    rintro e w22 ⟨he, hb⟩
                    rw [S1.out] at he
                    subst he
                    have QX := Lib.hid (Box.below (Box.alloc PX.out _) hb)
                    have QY := Lib.hid (Box.below (Box.alloc PY.out _) hb)
                    have QA := Lib.hid (Box.below (Box.new _ _ _ _) hb)
                    have HB22 : Hid (Below w7.heap.size w7 w22) := Lib.hid (Below.trans (Below.alloc HB21.out (by have := HB21.out.size; simp; try omega) _) (hb.mono (Below.size (Below.alloc HB21.out (by have := HB21.out.size; simp; try omega) _))))
                    clear X_0 X_1 X_2 X_3 X_4 X_5 X_6 X_7 Y_0 Y_1 Y_2 Y_3 Y_4 Y_5 Y_6 Y_7 hb
                    clear PX PY
                    have PX := QX
                    clear QX
                    have PY := QY
                    clear QY
                    have PA := QA
                    clear QA
                    have q22 : w7.heap.size ≤ w22.heap.size := HB22.out.size
                    have z22 : w21.heap.size < w22.heap.size := PA.out.lt
                    obtain ⟨X_0, X_1, X_2, X_3⟩ := PX.out
                    obtain ⟨X_4, X_5, X_6, X_7⟩ := lt5 PX.out.lt
                    obtain ⟨Y_0, Y_1, Y_2, Y_3⟩ := PY.out
                    obtain ⟨Y_4, Y_5, Y_6, Y_7⟩ := lt5 PY.out.lt
                    obtain ⟨A_0, A_1, A_2, A_3⟩ := PA.out
                    obtain ⟨A_4, A_5, A_6, A_7⟩ := lt5 PA.out.lt
                    go_wp2_with fail
                    refine (sub_all x d y e _).mono ?_
                    rintro e w23 ⟨he, hb⟩
                    rw [S2.out] at he
                    subst he
                    have QX := Lib.hid (Box.below (Box.alloc PX.out _) hb)
                    have QY := Lib.hid (Box.below (Box.alloc PY.out _) hb)
                    have QA := Lib.hid (Box.below (Box.alloc PA.out _) hb)
                    have QB := Lib.hid (Box.below (Box.new _ _ _ _) hb)
                    have HB23 : Hid (Below w7.heap.size w7 w23) := Lib.hid (Below.trans (Below.alloc HB22.out (by have := HB22.out.size; simp; try omega) _) (hb.mono (Below.size (Below.alloc HB22.out (by have := HB22.out.size; simp; try omega) _))))
                    clear X_0 X_1 X_2 X_3 X_4 X_5 X_6 X_7 Y_0 Y_1 Y_2 Y_3 Y_4 Y_5 Y_6 Y_7 A_0 A_1 A_2 A_3 A_4 A_5 A_6 A_7 hb
                    clear PX PY PA
                    have PX := QX
                    clear QX
                    have PY := QY
                    clear QY
                    have PA := QA
                    clear QA
                    have PB := QB
                    clear QB
                    have q23 : w7.heap.size ≤ w23.heap.size := HB23.out.size
                    have z23 : w22.heap.size < w23.heap.size := PB.out.lt
                    obtain ⟨X_0, X_1, X_2, X_3⟩ := PX.out
                    obtain ⟨X_4, X_5, X_6, X_7⟩ := lt5 PX.out.lt
                    obtain ⟨Y_0, Y_1, Y_2, Y_3⟩ := PY.out
                    obtain ⟨Y_4, Y_5, Y_6, Y_7⟩ := lt5 PY.out.lt
                    obtain ⟨A_0, A_1, A_2, A_3⟩ := PA.out
                    obtain ⟨A_4, A_5, A_6, A_7⟩ := lt5 PA.out.lt
                    obtain ⟨B_0, B_1, B_2, B_3⟩ := PB.out
                    obtain ⟨B_4, B_5, B_6, B_7⟩ := lt5 PB.out.lt
                    go_wp2_with fail
                    refine (rsub_all x d y e hy _).mono ?_
                    rintro e w24 ⟨he, hb⟩
                    rw [S2.out] at he
                    subst he
                    have QX := Lib.hid (Box.below (Box.alloc PX.out _) hb)
                    have QY := Lib.hid (Box.below (Box.alloc PY.out _) hb)
                    have QA := Lib.hid (Box.below (Box.alloc PA.out _) hb)
                    have QB := Lib.hid (Box.below (Box.alloc PB.out _) hb)
                    have QC := Lib.hid (Box.below (Box.new _ _ _ _) hb)
                    have HB24 : Hid (Below w7.heap.size w7 w24) := Lib.hid (Below.trans (Below.alloc HB23.out (by have := HB23.out.size; simp; try omega) _) (hb.mono (Below.size (Below.alloc HB23.out (by have := HB23.out.size; simp; try omega) _))))
                    clear X_0 X_1 X_2 X_3 X_4 X_5 X_6 X_7 Y_0 Y_1 Y_2 Y_3 Y_4 Y_5 Y_6 Y_7 A_0 A_1 A_2 A_3 A_4 A_5 A_6 A_7 B_0 B_1 B_2 B_3 B_4 B_5 B_6 B_7 hb
                    clear PX PY PA PB
                    have PX := QX
                    clear QX
                    have PY := QY
                    clear QY
                    have PA := QA
                    clear QA
                    have PB := QB
                    clear QB
                    have PC := QC
                    clear QC
                    have q24 : w7.heap.size ≤ w24.heap.size := HB24.out.size
                    have z24 : w23.heap.size < w24.heap.size := PC.out.lt
                    have QX := Lib.hid (Box.alloc PX.out (.cells #[.int .i64 s2n, .int .i64 s2d] 23))
                    have QY := Lib.hid (Box.alloc PY.out (.cells #[.int .i64 s2n, .int .i64 s2d] 23))
                    have QA := Lib.hid (Box.alloc PA.out (.cells #[.int .i64 s2n, .int .i64 s2d] 23))
                    have QB := Lib.hid (Box.alloc PB.out (.cells #[.int .i64 s2n, .int .i64 s2d] 23))
                    have QC := Lib.hid (Box.alloc PC.out (.cells #[.int .i64 s2n, .int .i64 s2d] 23))
                    have QD := Lib.hid (Box.new w24 s2n s2d 23)
                    have HB25 : Hid (Below w7.heap.size w7 (w24.alloc (.cells #[.int .i64 s2n, .int .i64 s2d] 23))) := Lib.hid (Below.alloc HB24.out (by have := HB24.out.size; simp; try omega) _)
                    have z25 : w24.heap.size < (w24.alloc (.cells #[.int .i64 s2n, .int .i64 s2d] 23)).heap.size := by simp
                    obtain ⟨X_0, X_1, X_2, X_3⟩ := PX.out
                    obtain ⟨X_4, X_5, X_6, X_7⟩ := lt5 PX.out.lt
                    obtain ⟨Y_0, Y_1, Y_2, Y_3⟩ := PY.out
                    obtain ⟨Y_4, Y_5, Y_6, Y_7⟩ := lt5 PY.out.lt
                    obtain ⟨A_0, A_1, A_2, A_3⟩ := PA.out
                    obtain ⟨A_4, A_5, A_6, A_7⟩ := lt5 PA.out.lt
                    obtain ⟨B_0, B_1, B_2, B_3⟩ := PB.out
                    obtain ⟨B_4, B_5, B_6, B_7⟩ := lt5 PB.out.lt
                    obtain ⟨C_0, C_1, C_2, C_3⟩ := PC.out
                    obtain ⟨C_4, C_5, C_6, C_7⟩ := lt5 PC.out.lt
                    go_upto_region 26 with fail
                    clear X_0 X_1 X_2 X_3 X_4 X_5 X_6 X_7 Y_0 Y_1 Y_2 Y_3 Y_4 Y_5 Y_6 Y_7 A_0 A_1 A_2 A_3 A_4 A_5 A_6 A_7 B_0 B_1 B_2 B_3 B_4 B_5 B_6 B_7 C_0 C_1 C_2 C_3 C_4 C_5 C_6 C_7
                    clear PX PY PA PB PC
                    have PX := QX
                    clear QX
                    have PY := QY
                    clear QY
                    have PA := QA
                    clear QA
                    have PB := QB
                    clear QB
                    have PC := QC
                    clear QC
                    have PD := QD
                    clear QD
                    generalize w24.alloc (.cells #[.int .i64 s2n, .int .i64 s2d] 23) = w25 at PX PY PA PB PC PD HB25 z25 ⊢
                    go_cut [190] (fun sv wx => sv = .bool false ∧ Hid (Below w25.heap.size w25 wx))
                    case first =>
                      obtain ⟨X_0, X_1, _, _⟩ := PX.out
                      obtain ⟨Y_0, Y_1, _, _⟩ := PY.out
                      obtain ⟨A_0, A_1, _, _⟩ := PA.out
                      obtain ⟨B_0, B_1, _, _⟩ := PB.out
                      obtain ⟨C_0, C_1, _, _⟩ := PC.out
                      obtain ⟨D_0, D_1, _, _⟩ := PD.out
                      go_region_held3 (fun w' => w'.cell? ⟨wr0.heap.size, 0, none⟩ = some (.int .i64 x) ∧ w'.cell? ⟨wr0.heap.size, 1, none⟩ = some (.int .i64 d) ∧ w'.cell? ⟨w20.heap.size, 0, none⟩ = some (.int .i64 y) ∧ w'.cell? ⟨w20.heap.size, 1, none⟩ = some (.int .i64 e) ∧ w'.cell? ⟨w21.heap.size, 0, none⟩ = some (.int .i64 s1n) ∧ w'.cell? ⟨w21.heap.size, 1, none⟩ = some (.int .i64 s1d) ∧ w'.cell? ⟨w22.heap.size, 0, none⟩ = some (.int .i64 s1n) ∧ w'.cell? ⟨w22.heap.size, 1, none⟩ = some (.int .i64 s1d) ∧ w'.cell? ⟨w23.heap.size, 0, none⟩ = some (.int .i64 s2n) ∧ w'.cell? ⟨w23.heap.size, 1, none⟩ = some (.int .i64 s2d) ∧ w'.cell? ⟨w24.heap.size, 0, none⟩ = some (.int .i64 s2n) ∧ w'.cell? ⟨w24.heap.size, 1, none⟩ = some (.int .i64 s2d) ∧ Hid (Below w25.heap.size w25 w'))
                        (first | exact ⟨X_0, X_1, Y_0, Y_1, A_0, A_1, B_0, B_1, C_0, C_1, D_0, D_1, Below.refl _ _⟩ | exact ⟨X_0, X_1, Y_0, Y_1, A_0, A_1, B_0, B_1, C_0, C_1, D_0, D_1, (Below.refl _ _).drew⟩ | exact keep12 (by assumption) (by assumption))
                        (first
                          | (go_at_call 29; refine (compare_all x d y e _).mono ?_; rintro e' w' ⟨hcm, hb⟩; rw [S5.out] at hcm; subst hcm)
                          | (go_at_call 30; refine (rcompare_all x d y e _).mono ?_; rintro e' w' ⟨hcm, hb⟩; rw [S5.out] at hcm; subst hcm))
                      go_wp2_with fail
                      go_meet
                      rename_i hH
                      exact ⟨rfl, hH.2.2.2.2.2.2.2.2.2.2.2.2⟩
                    case rest =>
                      obtain ⟨w26, rfl⟩ : ∃ u : World, u = wc := ⟨_, rfl⟩
                      obtain ⟨rfl, HQ26⟩ := hcut
                      have QX := Lib.hid (PX.out.below HQ26.out)
                      have QY := Lib.hid (PY.out.below HQ26.out)
                      have QA := Lib.hid (PA.out.below HQ26.out)
                      have QB := Lib.hid (PB.out.below HQ26.out)
                      have QC := Lib.hid (PC.out.below HQ26.out)
                      have QD := Lib.hid (PD.out.below HQ26.out)
                      have HB26 := Lib.hid (HB25.out.trans (HQ26.out.mono HB25.out.size))
                      have q26 : w7.heap.size ≤ w26.heap.size := HB26.out.size
                      clear PX PY PA PB PC PD
                      have PX := QX
                      clear QX
                      have PY := QY
                      clear QY
                      have PA := QA
                      clear QA
                      have PB := QB
                      clear QB
                      have PC := QC
                      clear QC
                      have PD := QD
                      clear QD
                      obtain ⟨X_0, X_1, X_2, X_3⟩ := PX.out
                      obtain ⟨X_4, X_5, X_6, X_7⟩ := lt5 PX.out.lt
                      obtain ⟨Y_0, Y_1, Y_2, Y_3⟩ := PY.out
                      obtain ⟨Y_4, Y_5, Y_6, Y_7⟩ := lt5 PY.out.lt
                      obtain ⟨A_0, A_1, A_2, A_3⟩ := PA.out
                      obtain ⟨A_4, A_5, A_6, A_7⟩ := lt5 PA.out.lt
                      obtain ⟨B_0, B_1, B_2, B_3⟩ := PB.out
                      obtain ⟨B_4, B_5, B_6, B_7⟩ := lt5 PB.out.lt
                      obtain ⟨C_0, C_1, C_2, C_3⟩ := PC.out
                      obtain ⟨C_4, C_5, C_6, C_7⟩ := lt5 PC.out.lt
                      obtain ⟨D_0, D_1, D_2, D_3⟩ := PD.out
                      obtain ⟨D_4, D_5, D_6, D_7⟩ := lt5 PD.out.lt
                      go_wp2_with fail
                      refine (mul_all x d y e _).mono ?_
                      rintro e w27 ⟨he, hb⟩
                      rw [S3.out] at he
                      subst he
                      have QX := Lib.hid (Box.below PX.out hb)
                      have QY := Lib.hid (Box.below PY.out hb)
                      have QA := Lib.hid (Box.below PA.out hb)
                      have QB := Lib.hid (Box.below PB.out hb)
                      have QC := Lib.hid (Box.below PC.out hb)
                      have QD := Lib.hid (Box.below PD.out hb)
                      have HB27 : Hid (Below w7.heap.size w7 w27) := Lib.hid (Below.trans HB26.out (hb.mono (Below.size HB26.out)))
                      clear X_0 X_1 X_2 X_3 X_4 X_5 X_6 X_7 Y_0 Y_1 Y_2 Y_3 Y_4 Y_5 Y_6 Y_7 A_0 A_1 A_2 A_3 A_4 A_5 A_6 A_7 B_0 B_1 B_2 B_3 B_4 B_5 B_6 B_7 C_0 C_1 C_2 C_3 C_4 C_5 C_6 C_7 D_0 D_1 D_2 D_3 D_4 D_5 D_6 D_7 hb
                      clear PX PY PA PB PC PD
                      have PX := QX
                      clear QX
                      have PY := QY
                      clear QY
                      have PA := QA
                      clear QA
                      have PB := QB
                      clear QB
                      have PC := QC
                      clear QC
                      have PD := QD
                      clear QD
                      have q27 : w7.heap.size ≤ w27.heap.size := HB27.out.size
                      obtain ⟨X_0, X_1, X_2, X_3⟩ := PX.out
                      obtain ⟨X_4, X_5, X_6, X_7⟩ := lt5 PX.out.lt
                      obtain ⟨Y_0, Y_1, Y_2, Y_3⟩ := PY.out
                      obtain ⟨Y_4, Y_5, Y_6, Y_7⟩ := lt5 PY.out.lt
                      obtain ⟨A_0, A_1, A_2, A_3⟩ := PA.out
                      obtain ⟨A_4, A_5, A_6, A_7⟩ := lt5 PA.out.lt
                      obtain ⟨B_0, B_1, B_2, B_3⟩ := PB.out
                      obtain ⟨B_4, B_5, B_6, B_7⟩ := lt5 PB.out.lt
                      obtain ⟨C_0, C_1, C_2, C_3⟩ := PC.out
                      obtain ⟨C_4, C_5, C_6, C_7⟩ := lt5 PC.out.lt
                      obtain ⟨D_0, D_1, D_2, D_3⟩ := PD.out
                      obtain ⟨D_4, D_5, D_6, D_7⟩ := lt5 PD.out.lt
                      have n_X_A : ¬ wr0.heap.size = w21.heap.size := by omega
                      have m_X_A : ¬ w21.heap.size = wr0.heap.size := by omega
                      have n_Y_A : ¬ w20.heap.size = w21.heap.size := by omega
                      have m_Y_A : ¬ w21.heap.size = w20.heap.size := by omega
                      have n_B_A : ¬ w22.heap.size = w21.heap.size := by omega
                      have m_B_A : ¬ w21.heap.size = w22.heap.size := by omega
                      have n_C_A : ¬ w23.heap.size = w21.heap.size := by omega
                      have m_C_A : ¬ w21.heap.size = w23.heap.size := by omega
                      have n_D_A : ¬ w24.heap.size = w21.heap.size := by omega
                      have m_D_A : ¬ w21.heap.size = w24.heap.size := by omega
                      go_wp2_with fail
                      refine (rmul_all x d y e _).mono ?_
                      rintro e w28 ⟨he, hb⟩
                      rw [S3.out] at he
                      subst he
                      have QX := Lib.hid (Box.below (Box.other (Box.other PX.out (by omega) _ _) (by omega) _ _) hb)
                      have QY := Lib.hid (Box.below (Box.other (Box.other PY.out (by omega) _ _) (by omega) _ _) hb)
                      have QA := Lib.hid (Box.below (Box.set PA.out _ _) hb)
                      have QB := Lib.hid (Box.below (Box.other (Box.other PB.out (by omega) _ _) (by omega) _ _) hb)
                      have QC := Lib.hid (Box.below (Box.other (Box.other PC.out (by omega) _ _) (by omega) _ _) hb)
                      have QD := Lib.hid (Box.below (Box.other (Box.other PD.out (by omega) _ _) (by omega) _ _) hb)
                      have HB28 : Hid (Below w7.heap.size w7 w28) := Lib.hid (Below.trans (Below.setCell (Below.setCell HB27.out (by simp; omega) _) (by simp; omega) _) (hb.mono (Below.size (Below.setCell (Below.setCell HB27.out (by simp; omega) _) (by simp; omega) _))))
                      clear X_0 X_1 X_2 X_3 X_4 X_5 X_6 X_7 Y_0 Y_1 Y_2 Y_3 Y_4 Y_5 Y_6 Y_7 A_0 A_1 A_2 A_3 A_4 A_5 A_6 A_7 B_0 B_1 B_2 B_3 B_4 B_5 B_6 B_7 C_0 C_1 C_2 C_3 C_4 C_5 C_6 C_7 D_0 D_1 D_2 D_3 D_4 D_5 D_6 D_7 n_X_A m_X_A n_Y_A m_Y_A n_B_A m_B_A n_C_A m_C_A n_D_A m_D_A hb
                      clear PX PY PA PB PC PD
                      have PX := QX
                      clear QX
                      have PY := QY
                      clear QY
                      have PA := QA
                      clear QA
                      have PB := QB
                      clear QB
                      have PC := QC
                      clear QC
                      have PD := QD
                      clear QD
                      have q28 : w7.heap.size ≤ w28.heap.size := HB28.out.size
                      obtain ⟨X_0, X_1, X_2, X_3⟩ := PX.out
                      obtain ⟨X_4, X_5, X_6, X_7⟩ := lt5 PX.out.lt
                      obtain ⟨Y_0, Y_1, Y_2, Y_3⟩ := PY.out
                      obtain ⟨Y_4, Y_5, Y_6, Y_7⟩ := lt5 PY.out.lt
                      obtain ⟨A_0, A_1, A_2, A_3⟩ := PA.out
                      obtain ⟨A_4, A_5, A_6, A_7⟩ := lt5 PA.out.lt
                      obtain ⟨B_0, B_1, B_2, B_3⟩ := PB.out
                      obtain ⟨B_4, B_5, B_6, B_7⟩ := lt5 PB.out.lt
                      obtain ⟨C_0, C_1, C_2, C_3⟩ := PC.out
                      obtain ⟨C_4, C_5, C_6, C_7⟩ := lt5 PC.out.lt
                      obtain ⟨D_0, D_1, D_2, D_3⟩ := PD.out
                      obtain ⟨D_4, D_5, D_6, D_7⟩ := lt5 PD.out.lt
                      have n_X_B : ¬ wr0.heap.size = w22.heap.size := by omega
                      have m_X_B : ¬ w22.heap.size = wr0.heap.size := by omega
                      have n_Y_B : ¬ w20.heap.size = w22.heap.size := by omega
                      have m_Y_B : ¬ w22.heap.size = w20.heap.size := by omega
                      have n_A_B : ¬ w21.heap.size = w22.heap.size := by omega
                      have m_A_B : ¬ w22.heap.size = w21.heap.size := by omega
                      have n_C_B : ¬ w23.heap.size = w22.heap.size := by omega
                      have m_C_B : ¬ w22.heap.size = w23.heap.size := by omega
                      have n_D_B : ¬ w24.heap.size = w22.heap.size := by omega
                      have m_D_B : ¬ w22.heap.size = w24.heap.size := by omega
                      go_wp2_with fail
                      refine (div_all x d y e _).mono ?_
                      rintro e w29 ⟨he, hb⟩
                      rw [S4.out] at he
                      subst he
                      have QX := Lib.hid (Box.below (Box.other (Box.other PX.out (by omega) _ _) (by omega) _ _) hb)
                      have QY := Lib.hid (Box.below (Box.other (Box.other PY.out (by omega) _ _) (by omega) _ _) hb)
                      have QA := Lib.hid (Box.below (Box.other (Box.other PA.out (by omega) _ _) (by omega) _ _) hb)
                      have QB := Lib.hid (Box.below (Box.set PB.out _ _) hb)
                      have QC := Lib.hid (Box.below (Box.other (Box.other PC.out (by omega) _ _) (by omega) _ _) hb)
                      have QD := Lib.hid (Box.below (Box.other (Box.other PD.out (by omega) _ _) (by omega) _ _) hb)
                      have HB29 : Hid (Below w7.heap.size w7 w29) := Lib.hid (Below.trans (Below.setCell (Below.setCell HB28.out (by simp; omega) _) (by simp; omega) _) (hb.mono (Below.size (Below.setCell (Below.setCell HB28.out (by simp; omega) _) (by simp; omega) _))))
                      clear X_0 X_1 X_2 X_3 X_4 X_5 X_6 X_7 Y_0 Y_1 Y_2 Y_3 Y_4 Y_5 Y_6 Y_7 A_0 A_1 A_2 A_3 A_4 A_5 A_6 A_7 B_0 B_1 B_2 B_3 B_4 B_5 B_6 B_7 C_0 C_1 C_2 C_3 C_4 C_5 C_6 C_7 D_0 D_1 D_2 D_3 D_4 D_5 D_6 D_7 n_X_B m_X_B n_Y_B m_Y_B n_A_B m_A_B n_C_B m_C_B n_D_B m_D_B hb
                      clear PX PY PA PB PC PD
                      have PX := QX
                      clear QX
                      have PY := QY
                      clear QY
                      have PA := QA
                      clear QA
                      have PB := QB
                      clear QB
                      have PC := QC
                      clear QC
                      have PD := QD
                      clear QD
                      have q29 : w7.heap.size ≤ w29.heap.size := HB29.out.size
                      obtain ⟨X_0, X_1, X_2, X_3⟩ := PX.out
                      obtain ⟨X_4, X_5, X_6, X_7⟩ := lt5 PX.out.lt
                      obtain ⟨Y_0, Y_1, Y_2, Y_3⟩ := PY.out
                      obtain ⟨Y_4, Y_5, Y_6, Y_7⟩ := lt5 PY.out.lt
                      obtain ⟨A_0, A_1, A_2, A_3⟩ := PA.out
                      obtain ⟨A_4, A_5, A_6, A_7⟩ := lt5 PA.out.lt
                      obtain ⟨B_0, B_1, B_2, B_3⟩ := PB.out
                      obtain ⟨B_4, B_5, B_6, B_7⟩ := lt5 PB.out.lt
                      obtain ⟨C_0, C_1, C_2, C_3⟩ := PC.out
                      obtain ⟨C_4, C_5, C_6, C_7⟩ := lt5 PC.out.lt
                      obtain ⟨D_0, D_1, D_2, D_3⟩ := PD.out
                      obtain ⟨D_4, D_5, D_6, D_7⟩ := lt5 PD.out.lt
                      have n_X_C : ¬ wr0.heap.size = w23.heap.size := by omega
                      have m_X_C : ¬ w23.heap.size = wr0.heap.size := by omega
                      have n_Y_C : ¬ w20.heap.size = w23.heap.size := by omega
                      have m_Y_C : ¬ w23.heap.size = w20.heap.size := by omega
                      have n_A_C : ¬ w21.heap.size = w23.heap.size := by omega
                      have m_A_C : ¬ w23.heap.size = w21.heap.size := by omega
                      have n_B_C : ¬ w22.heap.size = w23.heap.size := by omega
                      have m_B_C : ¬ w23.heap.size = w22.heap.size := by omega
                      have n_D_C : ¬ w24.heap.size = w23.heap.size := by omega
                      have m_D_C : ¬ w23.heap.size = w24.heap.size := by omega
                      go_wp2_with fail
                      refine (rdiv_all x d y e _).mono ?_
                      rintro e w30 ⟨he, hb⟩
                      rw [S4.out] at he
                      subst he
                      have QX := Lib.hid (Box.below (Box.other (Box.other PX.out (by omega) _ _) (by omega) _ _) hb)
                      have QY := Lib.hid (Box.below (Box.other (Box.other PY.out (by omega) _ _) (by omega) _ _) hb)
                      have QA := Lib.hid (Box.below (Box.other (Box.other PA.out (by omega) _ _) (by omega) _ _) hb)
                      have QB := Lib.hid (Box.below (Box.other (Box.other PB.out (by omega) _ _) (by omega) _ _) hb)
                      have QC := Lib.hid (Box.below (Box.set PC.out _ _) hb)
                      have QD := Lib.hid (Box.below (Box.other (Box.other PD.out (by omega) _ _) (by omega) _ _) hb)
                      have HB30 : Hid (Below w7.heap.size w7 w30) := Lib.hid (Below.trans (Below.setCell (Below.setCell HB29.out (by simp; omega) _) (by simp; omega) _) (hb.mono (Below.size (Below.setCell (Below.setCell HB29.out (by simp; omega) _) (by simp; omega) _))))
                      clear X_0 X_1 X_2 X_3 X_4 X_5 X_6 X_7 Y_0 Y_1 Y_2 Y_3 Y_4 Y_5 Y_6 Y_7 A_0 A_1 A_2 A_3 A_4 A_5 A_6 A_7 B_0 B_1 B_2 B_3 B_4 B_5 B_6 B_7 C_0 C_1 C_2 C_3 C_4 C_5 C_6 C_7 D_0 D_1 D_2 D_3 D_4 D_5 D_6 D_7 n_X_C m_X_C n_Y_C m_Y_C n_A_C m_A_C n_B_C m_B_C n_D_C m_D_C hb
                      clear PX PY PA PB PC PD
                      have PX := QX
                      clear QX
                      have PY := QY
                      clear QY
                      have PA := QA
                      clear QA
                      have PB := QB
                      clear QB
                      have PC := QC
                      clear QC
                      have PD := QD
                      clear QD
                      have q30 : w7.heap.size ≤ w30.heap.size := HB30.out.size
                      obtain ⟨X_0, X_1, X_2, X_3⟩ := PX.out
                      obtain ⟨X_4, X_5, X_6, X_7⟩ := lt5 PX.out.lt
                      obtain ⟨Y_0, Y_1, Y_2, Y_3⟩ := PY.out
                      obtain ⟨Y_4, Y_5, Y_6, Y_7⟩ := lt5 PY.out.lt
                      obtain ⟨A_0, A_1, A_2, A_3⟩ := PA.out
                      obtain ⟨A_4, A_5, A_6, A_7⟩ := lt5 PA.out.lt
                      obtain ⟨B_0, B_1, B_2, B_3⟩ := PB.out
                      obtain ⟨B_4, B_5, B_6, B_7⟩ := lt5 PB.out.lt
                      obtain ⟨C_0, C_1, C_2, C_3⟩ := PC.out
                      obtain ⟨C_4, C_5, C_6, C_7⟩ := lt5 PC.out.lt
                      obtain ⟨D_0, D_1, D_2, D_3⟩ := PD.out
                      obtain ⟨D_4, D_5, D_6, D_7⟩ := lt5 PD.out.lt
                      have n_X_D : ¬ wr0.heap.size = w24.heap.size := by omega
                      have m_X_D : ¬ w24.heap.size = wr0.heap.size := by omega
                      have n_Y_D : ¬ w20.heap.size = w24.heap.size := by omega
                      have m_Y_D : ¬ w24.heap.size = w20.heap.size := by omega
                      have n_A_D : ¬ w21.heap.size = w24.heap.size := by omega
                      have m_A_D : ¬ w24.heap.size = w21.heap.size := by omega
                      have n_B_D : ¬ w22.heap.size = w24.heap.size := by omega
                      have m_B_D : ¬ w24.heap.size = w22.heap.size := by omega
                      have n_C_D : ¬ w23.heap.size = w24.heap.size := by omega
                      have m_C_D : ¬ w24.heap.size = w23.heap.size := by omega
                      go_wp2_with fail
                      go_roundw
                      case rel => exact ⟨j + 1, congrArg (Value.int IntKind.i64) (by omega), by omega, (Below.setCell (Below.setCell HB30.out (by simp; omega) _) (by simp; omega) _)⟩
                      case measure => simp [intOf]; omega
                    --END3
                  ·
                    obtain rfl : j = 5 := by omega
                    have HW20 := Lib.hid (HW6.out.trans ((HB7.out.trans (HBs.out.mono HB7.out.size)).mono HW6.out.size))
                    have HS20 := Lib.hid (HBa.out.trans (HBs.out.mono HBa.out.size))
                    have HL20 : Hid (∀ i, i < 6 → ∃ z : ByteArray, (w20.alloc (.cells #[.string s, .string tx, .string (tx ++ ⟨#[48]⟩), .string (⟨#[45]⟩ ++ tx), .string (tx ++ ⟨#[47, 49]⟩), .string (⟨#[48]⟩ ++ tx)] 9)).cell? ⟨w20.heap.size, i, none⟩ = some (.string z) ∧ z.size ≤ 200) := Lib.hid (by
                      intro i hi
                      have hi6 : i = 0 ∨ i = 1 ∨ i = 2 ∨ i = 3 ∨ i = 4 ∨ i = 5 := by omega
                      have g1 : (ByteArray.mk #[48]).size = 1 := rfl
                      have g2 : (ByteArray.mk #[45]).size = 1 := rfl
                      have g3 : (ByteArray.mk #[47, 49]).size = 2 := rfl
                      rcases hi6 with rfl | rfl | rfl | rfl | rfl | rfl
                      · exact ⟨s, by rw [World.cell?_alloc_new]; rfl, by omega⟩
                      · exact ⟨tx, by rw [World.cell?_alloc_new]; rfl, by omega⟩
                      · exact ⟨tx ++ ⟨#[48]⟩, by rw [World.cell?_alloc_new]; rfl, by rw [ByteArray.size_append, g1]; omega⟩
                      · exact ⟨⟨#[45]⟩ ++ tx, by rw [World.cell?_alloc_new]; rfl, by rw [ByteArray.size_append, g2]; omega⟩
                      · exact ⟨tx ++ ⟨#[47, 49]⟩, by rw [World.cell?_alloc_new]; rfl, by rw [ByteArray.size_append, g3]; omega⟩
                      · exact ⟨⟨#[48]⟩ ++ tx, by rw [World.cell?_alloc_new]; rfl, by rw [ByteArray.size_append, g1]; omega⟩)
                    have HX20 : Hid (Below wB.heap.size wB (w20.alloc (.cells #[.string s, .string tx, .string (tx ++ ⟨#[48]⟩), .string (⟨#[45]⟩ ++ tx), .string (tx ++ ⟨#[47, 49]⟩), .string (⟨#[48]⟩ ++ tx)] 9))) := Lib.hid (HS20.out.alloc HS20.out.size _)
                    have HV20 : Hid (Below W.heap.size W (w20.alloc (.cells #[.string s, .string tx, .string (tx ++ ⟨#[48]⟩), .string (⟨#[45]⟩ ++ tx), .string (tx ++ ⟨#[47, 49]⟩), .string (⟨#[48]⟩ ++ tx)] 9))) := Lib.hid (HW20.out.alloc HW20.out.size _)
                    have h40 : w20.heap.size < (w20.alloc (.cells #[.string s, .string tx, .string (tx ++ ⟨#[48]⟩), .string (⟨#[45]⟩ ++ tx), .string (tx ++ ⟨#[47, 49]⟩), .string (⟨#[48]⟩ ++ tx)] 9)).heap.size := by simp
                    go_wp2_with fail
                    generalize w20.alloc (.cells #[.string s, .string tx, .string (tx ++ ⟨#[48]⟩), .string (⟨#[45]⟩ ++ tx), .string (tx ++ ⟨#[47, 49]⟩), .string (⟨#[48]⟩ ++ tx)] 9) = w40 at HL20 HX20 HV20 h40 ⊢
                    go_loopw [246] (fun vk wr => ∃ k : Nat, vk = .int .i64 k ∧ k ≤ 6 ∧ Hid (Below w40.heap.size w40 wr)) (fun vk _ => 6 - (intOf vk).toNat)
                    case atStart => exact ⟨0, rfl, by omega, Below.refl _ _⟩
                    case round =>
                      obtain ⟨i, rfl, hi, HB40⟩ := hrel
                      obtain ⟨w41, rfl⟩ : ∃ u : World, u = wr := ⟨_, rfl⟩
                      by_cases hit : i < 6
                      ·
                        obtain ⟨z, cz, hz⟩ := HL20.out i hit
                        have ez : w41.cell? ⟨w20.heap.size, i, none⟩ = some (.string z) := (HB40.out.cell (p := ⟨w20.heap.size, i, none⟩) h40).trans cz
                        clear cz
                        obtain ⟨⟨rn, rd, re⟩, hr⟩ : ∃ r, parseL z.data.toList = r := ⟨_, rfl⟩
                        have HN := Lib.hid hr
                        clear hr
                        go_wp2_with fail
                        refine (parse_all z (by omega) _ (H0.out.below (HV20.out.trans (HB40.out.mono HV20.out.size)))).mono ?_
                        rintro e w42 ⟨he, hb⟩
                        rw [HN.out] at he
                        subst he
                        have HB42 := Lib.hid (HB40.out.trans (hb.mono HB40.out.size))
                        clear hb ez
                        go_wp2_with fail
                        refine (rparse_all z (by omega) _).mono ?_
                        rintro e w43 ⟨he, hb⟩
                        rw [HN.out] at he
                        subst he
                        have P43 := Lib.hid ((Box.new w42 rn rd 23).below hb)
                        have HB43 := Lib.hid ((HB42.out.alloc HB42.out.size _).trans (hb.mono (HB42.out.alloc HB42.out.size _).size))
                        obtain ⟨p0, p1, p2, p3⟩ := P43.out
                        obtain ⟨l5, l6, l7, l8⟩ := lt5 P43.out.lt
                        clear hb
                        go_wp2_with fail
                        refine ⟨⟨_, _, _, _, _, _, _, _, _, _, _, _, _, _, _, _, _, _, _, _, _, _, _, _, _, _, _, _, _, ?rel, rfl⟩, ?measure⟩
                        case rel => exact ⟨i + 1, congrArg (Value.int IntKind.i64) (by omega), by omega, HB43.out.alloc HB43.out.size _⟩
                        case measure => simp [intOf]; omega
                      ·
                        obtain rfl : i = 6 := by omega
                        go_wp2_with fail
                        refine ⟨⟨_, _, _, _, _, _, _, _, _, _, _, _, _, _, _, _, _, _, _, _, _, _, _, _, _, _, _, _, _, _, _, _, _, _, _, _, _, _, _, _, _, _, _, _, _, _, _, _, _, _, _, _, _, _, _, _, _, _, _, _, _, _, _, _, _, _, _, _, _, _, _, _, _, _, _, _, _, _, _, _, _, _, _, _, _, _, _, _, _, _, _, _, _, _, _, _, _, _, _, _, _, _, _, _, _, _, _, _, _, _, _, _, _, _, _, _, _, _, _, _, _, _, _, _, _, _, _, _, _, _, _, _, _, _, _, _, _, _, _, _, _, _, _, _, _, _, _, _, _, _, _, _, _, _, _, _, _, _, _, _, _, _, _, _, _, _, _, _, _, _, _, _, _, _, _, _, _, _, _, _, _, _, _, _, ?rel, rfl⟩, ?measure⟩
                        case rel => exact ⟨k + 1, congrArg (Value.int IntKind.i64) (by omega), by omega, HX20.out.trans (HB40.out.mono HX20.out.size)⟩
                        case measure => simp [intOf]; omega
            ·
              obtain rfl : k = 5 := by omega
              have HW := Lib.hid (HBB.out.trans (HBr.out.mono HBB.out.size))
              go_wp2_with fail
              refine (awake_all _ (H0.out.below HW.out)).mono ?_
              rintro e w9 ⟨rfl, hb⟩
              go_wp2_with fail
              go_ret
              exact ⟨rfl, HW.out.trans (hb.mono HW.out.size)⟩

end Go.Proofs.YtkdpglpdcjhhkaaDoor
