/- The walk of BucketExcess. By the verifier's side. -/
import Derived.Test.YtombgfpheiopgaaEBkN
import Derived.Test.YtombgfpheiopgaaEBkH
import Derived.Test.YtombgfpheiopgaaEBentN
import Derived.Deep.RegionHeld3
namespace Go.Proofs.Ytombgfpheiopgaa
open Go.RowKit
set_option linter.unusedSimpArgs false
set_option linter.unusedVariables false

theorem RowZ.apart9 {w w' : World} {a : Option Addr} {n cap b : Nat} {zs : List Int} (h : RowZ w a n cap zs) (ha : Apart b w w') (hx : ∀ x, a = some x → 1 ≤ n → ¬ x.block = b) : RowZ w' a n cap zs :=
  ⟨h.len, h.le, h.sm, h.cm, fun i hi => by
    obtain ⟨x, h1, h2⟩ := h.cell i hi
    have hl := lt_of_cell h2
    rw [add_block] at hl
    exact ⟨x, h1, (World.cell?_of_block (w := w) (ha.block _ (by rw [add_block]; exact hl) (by rw [add_block]; exact hx x h1 (by omega)))).trans h2⟩, h.bd⟩
theorem Lst.of_row {P : Int → Prop} {w : World} {base g N cap : Nat} {zs : List Int} (h : w.ownsRow base 3 1 (.slice (some ⟨g, 0, none⟩) N cap) N (zs.map (Value.int .i64))) (hl : zs.length = N) (hp : ∀ i, i < N → P (zs.getD i 0)) : Lst P g N w := by
  refine ⟨fun i hi => ⟨_, owns_cell h (by omega), hp i hi⟩, fun i hi => ?_⟩
  rcases h.2 with ⟨h0, _⟩ | ⟨g', cap', cur, hv, _, hg, _⟩
  · cases h0
  · cases hv
    simp [World.frozen?, hg]
theorem rowB_three (w : World) (b c d : Bkt) (t : TypeId) : RowB (w.alloc (.cells #[.int .i64 b.bn, .int .i64 b.bd, .int .i64 b.rn, .int .i64 b.rd, .int .i64 c.bn, .int .i64 c.bd, .int .i64 c.rn, .int .i64 c.rd, .int .i64 d.bn, .int .i64 d.bd, .int .i64 d.rn, .int .i64 d.rd] t)) w.heap.size 0 [b, c, d] := fun i e hc => by
  rcases i with _ | _ | _ | i
  · cases hc; exact ⟨by go_simp, by go_simp, by go_simp, by go_simp⟩
  · cases hc; exact ⟨by go_simp, by go_simp, by go_simp, by go_simp⟩
  · cases hc; exact ⟨by go_simp, by go_simp, by go_simp, by go_simp⟩
  · simp at hc
theorem RowB.apart {u v : World} {B off b : Nat} {bs : List Bkt} (h : RowB u B off bs) (ha : Apart b u v) (hB : B ≠ b) : RowB v B off bs := fun i c hc => by
  obtain ⟨h1, h2, h3, h4⟩ := h i c hc
  obtain ⟨k, _⟩ := acell ha
  have l : B < u.heap.size := lt_of_cell h1
  exact ⟨(k B _ l hB).trans h1, (k B _ l hB).trans h2, (k B _ l hB).trans h3, (k B _ l hB).trans h4⟩
/-- An array of four lists. -/
def Sl4 (u : World) (S : Nat) : Prop := ∀ j, j < 4 → ∃ (a : Option Addr) (n c : Nat) (xs : List Int), u.cell? ⟨S, j, none⟩ = some (.slice a n c) ∧ RowZ u a n c xs
theorem Sl4.under {u v : World} {S : Nat} (h : Sl4 u S) (hb : Below u.heap.size u v) : Sl4 v S := fun j hj => by
  obtain ⟨a, n, c, xs, h1, h2⟩ := h j hj
  exact ⟨a, n, c, xs, (hb.cell (lt_of_cell h1)).trans h1, h2.under hb⟩
theorem sl4_new {w : World} {a0 a1 a2 a3 : Option Addr} {n0 c0 n1 c1 n2 c2 n3 c3 : Nat} {x0 x1 x2 x3 : List Int} (h0 : RowZ w a0 n0 c0 x0) (h1 : RowZ w a1 n1 c1 x1) (h2 : RowZ w a2 n2 c2 x2) (h3 : RowZ w a3 n3 c3 x3) (t : TypeId) :
    Sl4 (w.alloc (.cells #[.slice a0 n0 c0, .slice a1 n1 c1, .slice a2 n2 c2, .slice a3 n3 c3] t)) w.heap.size := fun j hj => by
  have hb : Below w.heap.size w (w.alloc (.cells #[.slice a0 n0 c0, .slice a1 n1 c1, .slice a2 n2 c2, .slice a3 n3 c3] t)) := (Below.refl _ _).alloc (Nat.le_refl _) _
  have hj4 : j = 0 ∨ j = 1 ∨ j = 2 ∨ j = 3 := by omega
  rcases hj4 with rfl | rfl | rfl | rfl
  · exact ⟨_, _, _, _, by go_simp, h0.under hb⟩
  · exact ⟨_, _, _, _, by go_simp, h1.under hb⟩
  · exact ⟨_, _, _, _, by go_simp, h2.under hb⟩
  · exact ⟨_, _, _, _, by go_simp, h3.under hb⟩

/-- A bucket's cells, and the reader. -/
abbrev SBk (w6 : World) (b : Nat) (ra : Option Addr) (rn rc B : Nat) (x0 x1 x2 x3 : Int) (u : World) : Prop :=
  u.cell? ⟨B, 0, none⟩ = some (.int .i64 x0) ∧ u.cell? ⟨B, 1, none⟩ = some (.int .i64 x1) ∧ u.cell? ⟨B, 2, none⟩ = some (.int .i64 x2) ∧ u.cell? ⟨B, 3, none⟩ = some (.int .i64 x3) ∧ Hid (Held w6 b ra rn rc u)
theorem sbk_mk {w6 : World} {b : Nat} {ra : Option Addr} {rn rc B : Nat} {x0 x1 x2 x3 : Int} {u : World} (h1 : Bk4 w6 B x0 x1 x2 x3) (k1 : B ≠ b) (h : Held w6 b ra rn rc u) : SBk w6 b ra rn rc B x0 x1 x2 x3 u := by
  have a1 := h1.apart h.ap k1
  exact ⟨a1.c0, a1.c1, a1.c2, a1.c3, h⟩
theorem sbk_of {w6 : World} {b : Nat} {ra : Option Addr} {rn rc B : Nat} {x0 x1 x2 x3 : Int} {u : World} (h : SBk w6 b ra rn rc B x0 x1 x2 x3 u) : Held w6 b ra rn rc u := h.2.2.2.2.out

set_option maxHeartbeats 1600000 in
theorem lratio_any (b : Nat) (a : Option Addr) (n cap : Nat) (w : World) (h : SrcAt w b a n cap) :
    Calls Try.prog 74 #[.pointer (some ⟨b, 0, none⟩)] w (Fracs (fun x y => In64 x ∧ In64 y) b a n cap w) := by
  have HS := Lib.hid h
  have hlt := h.lt
  clear h
  have hne : ¬ w.heap.size = b := Nat.ne_of_gt hlt
  go_enter Try.func74, Try.ntmps74
  go_wp2_with fail
  refine (n_any 6 (by omega) (by omega) b a n cap _ (HS.out.under ((Below.refl _ _).alloc (Nat.le_refl _) _))).mono ?_
  rintro e w1 ⟨r, hr, rfl, hs, he⟩
  have HS1 := Lib.hid hs
  have HA1 := Lib.hid (((Apart.refl b w).alloc (.cells #[.int .i64 0, .int .i64 0] 72)).trans he.apart)
  have BR := Lib.hid ((Box.new w 0 0 72).else he hne)
  clear hs he
  by_cases r0 : r = 0
  · subst r0
    go_wp2_with fail
    refine (ratio_any b a n cap _ HS1.out).mono ?_
    rintro e w2 ⟨x, y, hxy, rfl, hs, he⟩
    have HS3 := Lib.hid hs
    have HA3 := Lib.hid (HA1.out.trans he)
    obtain ⟨c0, c1, f0, f1⟩ := BR.out.apart he hne
    have HXY := Lib.hid hxy
    clear hs he hxy
    go_wp2_with fail
    refine bodyPost_ret (v := .agg #[.int .i64 x, .int .i64 y]) (by simp [results, Try.results74, go_sem, c0, c1, f0, f1]) rfl ?_
    have HA := (HA3.out.setNew (p := ⟨w.heap.size, 0, none⟩) (Nat.le_refl _) (.int .i64 x)).setNew (p := ⟨w.heap.size, 1, none⟩) (Nat.le_refl _) (.int .i64 y)
    refine ⟨x, y, HXY.out, rfl, SrcAt.mk2 HS.out HA ?_, HA⟩
    obtain ⟨k, hk, hb⟩ := HS3.out.src
    refine ⟨k, hk, ?_⟩
    rw [Below.heap_setCell _ _ _ _ (Ne.symm hne), Below.heap_setCell _ _ _ _ (Ne.symm hne)]
    exact hb
  · have t0 : (r == 0) = false := by simpa using r0
    have hbl := HS1.out.lt
    go_wp2_with fail
    refine (pick_of (fun z => 1 ≤ z ∧ z ≤ 121) (fun z hz => ⟨by omega, by omega⟩) w1.heap.size 6 6 (by omega) (by omega) b (Nat.ne_of_gt hbl) a n cap _ (HS1.out.under ((Below.refl _ _).alloc (Nat.le_refl _) _))
      (list_newP _ w1 [1, 3, 7, 60, 120, 121] 3 (by decide))).mono ?_
    rintro e w2 ⟨z, hz, rfl, hs, ha⟩
    have HS2 := Lib.hid hs
    have HA2 := Lib.hid ((HA1.out.alloc (.cells #[.int .i64 1, .int .i64 3, .int .i64 7, .int .i64 60, .int .i64 120, .int .i64 121] 3)).trans ha)
    have BR2 := Lib.hid ((BR.out.alloc (.cells #[.int .i64 1, .int .i64 3, .int .i64 7, .int .i64 60, .int .i64 120, .int .i64 121] 3)).apart ha hne)
    have HZ := Lib.hid hz
    clear hs ha hz
    go_wp2_with fail
    refine (frac_any 12 z (by have := HZ.out; omega) (by have := HZ.out; omega) (by have := HZ.out; omega) (by have := HZ.out; omega) b a n cap _ HS2.out).mono ?_
    rintro e w3 ⟨x, y, hxy, rfl, hs, he⟩
    have HS3 := Lib.hid hs
    have HA3 := Lib.hid (HA2.out.trans he)
    obtain ⟨c0, c1, f0, f1⟩ := BR2.out.apart he hne
    have HXY := Lib.hid (show In64 x ∧ In64 y by have := HZ.out; exact ⟨⟨by omega, by omega⟩, ⟨by omega, by omega⟩⟩)
    clear hs he hxy
    go_wp2_with fail
    refine bodyPost_ret (v := .agg #[.int .i64 x, .int .i64 y]) (by simp [results, Try.results74, go_sem, c0, c1, f0, f1]) rfl ?_
    have HA := (HA3.out.setNew (p := ⟨w.heap.size, 0, none⟩) (Nat.le_refl _) (.int .i64 x)).setNew (p := ⟨w.heap.size, 1, none⟩) (Nat.le_refl _) (.int .i64 y)
    refine ⟨x, y, HXY.out, rfl, SrcAt.mk2 HS.out HA ?_, HA⟩
    obtain ⟨k, hk, hb⟩ := HS3.out.src
    refine ⟨k, hk, ?_⟩
    rw [Below.heap_setCell _ _ _ _ (Ne.symm hne), Below.heap_setCell _ _ _ _ (Ne.symm hne)]
    exact hb

set_option maxRecDepth 100000 in
set_option maxHeartbeats 6400000 in
theorem bucketExcess_walk (W : World) (bn bd qn qd : Int) (a1 : Option Addr) (n1 c1 : Nat) (zs : List Int) (hsz : n1 ≤ 800 → RowZ W a1 n1 c1 zs) (a : Option Addr) (n cap : Nat) (hrow : RowAt W a n cap) :
    Calls Try.prog 10 #[bucketV bn bd qn qd, .slice a1 n1 c1, .slice a n cap] W fun e w' => e = .returned (.bool true) ∧ Below W.heap.size W w' := by
  obtain ⟨i0, hi0, hz0, hz1, hz2⟩ := info_parts info_int
  have hmk := make_rowP
  obtain ⟨W0, hw⟩ : ∃ w', W.alloc (.cells #[.int .i64 bn, .int .i64 bd, .int .i64 qn, .int .i64 qd] 74) = w' := ⟨_, rfl⟩
  have hz : Below W.heap.size W W0 := by rw [← hw]; exact below_box _
  have X0 := Lib.hid (show Bk4 W0 W.heap.size bn bd qn qd by rw [← hw]; exact Bk4.new _ _ _ _ _ _)
  have HR := Lib.hid (hrow.under hz)
  have HSZ := Lib.hid (show n1 ≤ 800 → RowZ W0 a1 n1 c1 zs ∧ ∀ x, a1 = some x → 1 ≤ n1 → ¬ x.block = W0.heap.size from fun h => ⟨(hsz h).under hz, fun x h1 h2 => by have := (hsz h).far x h1 h2; have := hz.size; omega⟩)
  have HB0 := Lib.hid hz
  have HW := Lib.hid hw
  clear hrow hz hw hsz
  go_enter Try.func10, Try.ntmps10
  go_upto_region 1 with fail
  rw [HW.out]
  clear HW
  by_cases h5 : 500 < n1
  · have h5i : (500 : Int) < (n1 : Int) := by omega
    go_wp2_with fail
    refine (awake11 _).mono ?_
    rintro e z2 ⟨rfl, hb⟩
    have HBZ := Lib.hid (HB0.out.trans (hb.mono HB0.out.size))
    clear hb
    go_wp2_with fail
    go_ret
    exact ⟨rfl, HBZ.out⟩
  have h5i : ¬ (500 : Int) < (n1 : Int) := by omega
  have HZ0 := Lib.hid (HSZ.out (by omega))
  clear HSZ
  go_wp2_with fail
  refine (new_any a n cap _ HR.out).mono ?_
  rintro e u1 ⟨rfl, hb1, hz1', ra, rn, rc, hs1⟩
  have hlW : W.heap.size < W0.heap.size := X0.out.lt
  have hneP : W.heap.size ≠ W0.heap.size := by omega
  have X1 := Lib.hid (X0.out.below hb1)
  have R1 := Lib.hid (HZ0.out.1.under hb1)
  have HB1 := Lib.hid (HB0.out.trans (hb1.mono HB0.out.size))
  have HS1 := Lib.hid hs1
  have Z1 := Lib.hid (show W0.heap.size < u1.heap.size by omega)
  have HD := Lib.hid (Held.start hs1)
  clear hb1 hz1' hs1 X0 HB0
  go_wp2_with fail
  refine (n_any 30 (by omega) (by omega) _ ra rn rc _ HS1.out).mono ?_
  rintro e u4 ⟨r, ⟨r0, r1⟩, rfl, hs, he⟩
  obtain ⟨N, rfl⟩ := Int.eq_ofNat_of_zero_le r0
  have hN : N ≤ 29 := by omega
  have hmN := hmk N (by omega)
  have D4 := Lib.hid (HD.out.call hs he.apart)
  clear hs he HD
  obtain ⟨w1, hw⟩ : ∃ w', u4.alloc (.cells (madeCells #[.int .i64 0] N) 3) = w' := ⟨_, rfl⟩
  have L0 := Lib.hid (show Lst (fun z => 0 ≤ z ∧ z ≤ 1500) u4.heap.size N w1 by rw [← hw]; exact Lst.make u4 N (by omega))
  have DD := Lib.hid (show Held u1 W0.heap.size ra rn rc w1 by rw [← hw]; exact D4.out.alloc _)
  have HGE := Lib.hid (show u1.heap.size ≤ u4.heap.size from D4.out.ap.size)
  have HW := Lib.hid hw
  clear hw D4
  go_upto_region 5 with fail
  try rw [HW.out]
  obtain ⟨G, hG⟩ : ∃ B, u4.heap.size = B := ⟨_, rfl⟩
  rw [hG] at L0 HGE
  try rw [hG]
  clear HW hG hmN
  have hng : ¬ G = W0.heap.size := by have := HGE.out; have := Z1.out; omega
  go_wp2_with fail
  go_loopw [30] (fun s wx => ∃ k : Nat, s = .int .i64 k ∧ k ≤ N ∧ Hid (Held u1 W0.heap.size ra rn rc wx) ∧ Hid (Lst (fun z => 0 ≤ z ∧ z ≤ 1500) G N wx)) (fun s _ => N - (intOf s).toNat)
  case atStart => exact ⟨0, by go_num, by omega, DD, L0⟩
  case round =>
    obtain ⟨k, rfl, hk, HD, HL⟩ := hrel
    obtain ⟨wk, rfl⟩ : ∃ u : World, u = wr := ⟨_, rfl⟩
    clear DD L0
    by_cases hlt : k < N
    · have hbl : W0.heap.size < wk.heap.size := HD.out.lt
      go_wp2_with fail
      refine (pick_of (fun z => 0 ≤ z ∧ z ≤ 1500) (fun z hz => ⟨by omega, by omega⟩) wk.heap.size 6 6 (by omega) (by omega) W0.heap.size (Nat.ne_of_gt hbl) ra rn rc _ ((HD.out.alloc _).at HS1.out)
        (list_newP _ wk [0, 0, 1, 7, 40, 1500] 3 (by decide))).mono ?_
      rintro e v1 ⟨z, hz, rfl, hs, ha⟩
      have hz2' : Below wk.heap.size wk (wk.alloc (.cells #[.int .i64 0, .int .i64 0, .int .i64 1, .int .i64 7, .int .i64 40, .int .i64 1500] 3)) := below_box _
      have HD1 := Lib.hid ((HD.out.alloc _).call hs ha)
      have HL1 := Lib.hid ((HL.out.under hz2').apart ha hng)
      obtain ⟨z0, hc0, _⟩ := HL1.out.cell k hlt
      have hf0 := HL1.out.free k hlt
      have HZ := Lib.hid hz
      clear hs ha hz2' hz
      go_wp2_with fail
      go_roundw
      case rel => exact ⟨k + 1, by go_num, by omega, HD1.out.set Z1.out (p := ⟨G, k, none⟩) HGE.out _, HL1.out.set hlt HZ.out⟩
      case measure => simp [intOf]; omega
    · obtain rfl : k = N := by omega
      clear hlt
      obtain ⟨xs, hxl, hxp, hxr⟩ := HL.out.row (by omega) (fun z hz => ⟨by omega, by omega⟩)
      go_upto_region 10 with fail
      go_cut [10] (fun s10 wx => ∃ (E c2 : Nat), s10 = .slice (some ⟨E, 0, none⟩) k c2 ∧ k ≤ c2 ∧ c2 ≤ maxLen ∧ u1.heap.size ≤ E ∧ (1 ≤ k → ¬ E = G) ∧ Hid (Held u1 W0.heap.size ra rn rc wx) ∧ Hid (Lst In64 E k wx) ∧ Hid (RowZ wx (some ⟨G, 0, none⟩) k k xs))
      case first =>
        have HXR := Lib.hid hxr
        by_cases hk0 : k = 0
        · subst hk0
          have D5 := Lib.hid (HD.out.alloc (.cells #[] 3))
          have R5 := Lib.hid (hxr.under (below_box (.cells #[] 3)))
          have h8 : u1.heap.size ≤ wk.heap.size := HD.out.ap.size
          have hz0c := fun (w : World) (x : Addr) (A : Option Addr) (c : Nat) => run_append_zero (P := Try.prog) w 22 22 3 i0 Try.underlying22 hi0 x 0 0 (Nat.le_refl _) A c
          have hgl := HL
          clear hxr
          go_wp2_with fail
          go_meet
          exact ⟨wk.heap.size, 0, rfl, Nat.le_refl _, by unfold maxLen; omega, h8, fun h => absurd h (by omega), D5, ⟨fun i hi => absurd hi (Nat.not_lt_zero _), fun i hi => absurd hi (Nat.not_lt_zero _)⟩, R5⟩
        · have hk1 : 1 ≤ k := by omega
          have h8 : u1.heap.size ≤ wk.heap.size := HD.out.ap.size
          have hxr5 := hxr.under (below_box (w := wk) (.cells #[] 3))
          have HR5 := Lib.hid hxr5
          have D5 := Lib.hid (HD.out.alloc (.cells #[] 3))
          clear hxr
          go_wp2_with (at_builtin; refine wpList_append_own _ rfl _ _ 22 rfl wk.heap.size 3 i0 (.int .i64 0) 1 8 Try.underlying22 hi0 hz0 hz1 hz2 rfl (by decide) _ _ _ rfl (World.ownsRow_made wk #[] 0 (Nat.le_refl _) (Nat.zero_le _) rfl) ⟨G, 0, none⟩ k k (xs.map (Value.int .i64)) rfl ?cl ?c1 ?c2 ?c3 ?c4 ?c5 ?_)
          case cl => rw [List.length_map, Nat.mul_one]; exact hxl
          case c1 =>
            intro j u hj
            rw [List.getElem?_map, Option.map_eq_some_iff] at hj
            obtain ⟨z, hz, rfl⟩ := hj
            have hjn : j < xs.length := (List.getElem?_eq_some_iff.1 hz).1
            obtain ⟨x', hx, hc⟩ := HR5.out.cell j (by omega)
            cases hx
            rw [show xs.getD j 0 = z by simp [List.getD, hz]] at hc
            exact hc
          case c2 => intro u hu; simp only [List.mem_map] at hu; obtain ⟨z, _, rfl⟩ := hu; rfl
          case c3 => unfold maxLen; omega
          case c4 => omega
          case c5 => first | (simp; done) | (simp; omega)
          intro v' w9 hown' hgrow hat
          have hown2 : w9.ownsRow wk.heap.size 3 1 v' k (xs.map (Value.int .i64)) := by simpa using hown'
          obtain ⟨E, c2, rfl, hE, hE'⟩ := hown2.form hk1
          have hGlt : G < wk.heap.size := HXR.out.far ⟨G, 0, none⟩ rfl hk1
          have hb9 : Below wk.heap.size wk w9 := (below_box (w := wk) (.cells #[] 3)).grown hgrow (by simp) (fun j hj => by cases hj; exact Nat.le_refl _)
          obtain ⟨a9, c9, hv9, R9, X9⟩ := rowZ_of_owns hown2 (by omega) (fun i hi => HXR.out.bd i (by omega))
          cases hv9
          have HD9 := Lib.hid (HD.out.below hb9)
          have LL9 := Lib.hid (Lst.of_row (P := In64) hown2 hxl (fun i hi => HXR.out.bd i hi))
          have RG9 := Lib.hid (HXR.out.under hb9)
          have hle9 := R9.le
          have hcm9 := R9.cm
          clear hown' hown2 hgrow hat R9 X9 hb9
          go_wp2_with fail
          go_meet
          exact ⟨E, c2, rfl, hle9, by unfold maxLen; omega, by omega, fun _ => by omega, HD9, LL9, RG9⟩
      case rest =>
      obtain ⟨E, c2, rfl, hc2, hc3, hE, hEG, HD5, HL5, HG5⟩ := hcut
      obtain ⟨w5, rfl⟩ : ∃ u : World, u = wc := ⟨_, rfl⟩
      have HXS := Lib.hid (show SizesX xs ∧ xs.length = k from ⟨fun i hi => hxp i (by omega), hxl⟩)
      have hnE : ¬ E = W0.heap.size := by have := Z1.out; omega
      clear HD HL hxr hxp
      go_upto_if 45 with fail
      go_cut [] (fun wx => Hid (Held u1 W0.heap.size ra rn rc wx) ∧ Hid (Lst In64 E k wx) ∧ Hid (RowZ wx (some ⟨G, 0, none⟩) k k xs))
      case first =>
        by_cases hk0 : 0 < k
        · have hki : (0 : Int) < (k : Int) := by omega
          have hkd : decide ((0 : Int) < (k : Int)) = true := decide_eq_true hki
          go_wp2_with fail
          refine (n_any k (by omega) (by omega) _ ra rn rc _ (HD5.out.at HS1.out)).mono ?_
          rintro e u6 ⟨r, ⟨r0, r1⟩, rfl, hs, he⟩
          obtain ⟨i, rfl⟩ := Int.eq_ofNat_of_zero_le r0
          have hik : i < k := by omega
          have HD6 := Lib.hid (HD5.out.call hs he.apart)
          have HL6 := Lib.hid (HL5.out.apart he.apart hnE)
          have HG6 := Lib.hid (HG5.out.apart9 he.apart (fun x hx _ => by cases hx; exact hng))
          have hbl := HD6.out.lt
          clear hs he HD5 HL5 HG5
          go_wp2_with fail
          refine (pick_of In64 (fun z hz => hz) u6.heap.size 3 3 (by omega) (by omega) W0.heap.size (Nat.ne_of_gt hbl) ra rn rc _ ((HD6.out.alloc _).at HS1.out)
            (list_newP _ u6 [-1, 1501, 0] 3 (by decide))).mono ?_
          rintro e u7 ⟨z, hz, rfl, hs, ha⟩
          have hz2' : Below u6.heap.size u6 (u6.alloc (.cells #[.int .i64 (-1), .int .i64 1501, .int .i64 0] 3)) := below_box _
          have HD7 := Lib.hid ((HD6.out.alloc _).call hs ha)
          have HL7 := Lib.hid ((HL6.out.under hz2').apart ha hnE)
          have HG7 := Lib.hid ((HG6.out.under hz2').apart9 ha (fun x hx _ => by cases hx; exact hng))
          obtain ⟨z0, hc0, _⟩ := HL7.out.cell i hik
          have hf0 := HL7.out.free i hik
          have HZ := Lib.hid hz
          clear hs ha hz2' hz
          have hEG1 := hEG (by omega)
          go_wp2_with fail
          go_meet
          exact ⟨HD7.out.set Z1.out (p := ⟨E, i, none⟩) hE _, HL7.out.set hik HZ.out, HG7.out.store (fun x hx _ => by cases hx; exact fun he => hEG1 he.symm) _ _⟩
        · obtain rfl : k = 0 := by omega
          go_wp2_with fail
          go_meet
          exact ⟨HD5, HL5, HG5⟩
      case rest =>
      obtain ⟨HD6, HL6, HG6⟩ := hcut
      obtain ⟨w6, rfl⟩ : ∃ u : World, u = wc := ⟨_, rfl⟩
      clear HD5 HL5 HG5
      have X6 := Lib.hid (X1.out.apart HD6.out.ap hneP)
      have HS6 := Lib.hid (HD6.out.at HS1.out)
      have R6 := Lib.hid (R1.out.apart9 HD6.out.ap HZ0.out.2)
      obtain ⟨ys, hyl, hyp, hyr⟩ := HL6.out.row (by omega) (fun z hz => hz)
      have RO6 := Lib.hid (show RowZ w6 (some ⟨E, 0, none⟩) k c2 ys from ⟨hyr.len, hc2, hyr.sm, by have := hc3; unfold maxLen at this; omega, hyr.cell, hyr.bd⟩)
      have HBW6 := Lib.hid (show Below W.heap.size W w6 from HB1.out.trans ((HD6.out.ap.below (Nat.le_of_lt hlW |> fun h => by omega) (by have := HB1.out.size; omega)) : Below W.heap.size u1 w6))
      have HK := Lib.hid (fun u (h : Held w6 W0.heap.size ra rn rc u) => sbk_mk X6.out hneP h)
      have HK0 := Lib.hid (HK.out _ (Held.start HS6.out).drew)
      have hbl6 := HS6.out.lt
      clear hyr hyp HL6
      go_upto_region 13 with fail
      go_cut [66, 67, 68] (fun s66 s67 s68 wx => ∃ (T : Nat) (bs : List Bkt), s66 = .slice (some ⟨T, 0, none⟩) 3 3 ∧ s67 = .int .i64 3 ∧ s68 = .int .i64 0 ∧ ¬ T = W0.heap.size ∧ bs.length = 3 ∧ Hid (RowB wx T 0 bs) ∧ Hid (Held w6 W0.heap.size ra rn rc wx))
      case first =>
        go_region_held3 (fun u => u.cell? ⟨W.heap.size, 0, none⟩ = some (.int .i64 bn) ∧ u.cell? ⟨W.heap.size, 1, none⟩ = some (.int .i64 bd) ∧ u.cell? ⟨W.heap.size, 2, none⟩ = some (.int .i64 qn) ∧ u.cell? ⟨W.heap.size, 3, none⟩ = some (.int .i64 qd) ∧ Hid (Held w6 W0.heap.size ra rn rc u))
          (first | with_reducible exact HK0.out | with_reducible exact HK.out _ ((sbk_of (by assumption)).call hs10 he10) | with_reducible exact HK.out _ ((sbk_of (by assumption)).call hs9 he9) | with_reducible exact HK.out _ ((sbk_of (by assumption)).call hs8 he8) | with_reducible exact HK.out _ ((sbk_of (by assumption)).call hs7 he7) | with_reducible exact HK.out _ ((sbk_of (by assumption)).alloc _) | with_reducible exact HK.out _ ((sbk_of (by assumption)).alloc _).drew | with_reducible exact HK.out _ (sbk_of (by assumption)).drew)
          (first | (go_at_call 74; (have HQ8 := hs7; (with_reducible refine (lratio_any W0.heap.size ra rn rc _ ((sbk_of (by assumption)).at HS6.out)).mono ?_); rintro e w8' ⟨x8, y8, hp8, rfl, hs8, he8⟩; have HK8 := Lib.hid ((sbk_of (by assumption)).call hs8 he8))) | (go_at_call 74; ((with_reducible refine (lratio_any W0.heap.size ra rn rc _ ((sbk_of (by assumption)).at HS6.out)).mono ?_); rintro e w7' ⟨x7, y7, hp7, rfl, hs7, he7⟩; have HK7 := Lib.hid ((sbk_of (by assumption)).call hs7 he7))) | (go_at_call 79; (have HQ10 := hs9; (with_reducible refine (frac_any 9 3 (by omega) (by omega) (by omega) (by omega) W0.heap.size ra rn rc _ ((sbk_of (by assumption)).at HS6.out)).mono ?_); rintro e w10' ⟨x10, y10, hp10, rfl, hs10, he10⟩; have HK10 := Lib.hid ((sbk_of (by assumption)).call hs10 he10))) | (go_at_call 79; ((with_reducible refine (frac_any 9 3 (by omega) (by omega) (by omega) (by omega) W0.heap.size ra rn rc _ ((sbk_of (by assumption)).at HS6.out)).mono ?_); rintro e w9' ⟨x9, y9, hp9, rfl, hs9, he9⟩; have HK9 := Lib.hid ((sbk_of (by assumption)).call hs9 he9))))
        go_wp2_with fail
        go_meet
        have hH := HK10.out
        exact ⟨w10'.heap.size, [⟨bn, bd, qn, qd⟩, ⟨x7, y7, x8, y8⟩, ⟨x9, y9, x10, y10⟩], rfl, rfl, rfl, by have := hH.lt; omega, rfl, rowB_three w10' ⟨bn, bd, qn, qd⟩ ⟨x7, y7, x8, y8⟩ ⟨x9, y9, x10, y10⟩ _, hH.alloc _⟩
      case rest =>
      obtain ⟨T, bs, rfl, rfl, rfl, hTb, hbl, HT7, HD7⟩ := hcut
      obtain ⟨w7, rfl⟩ : ∃ u : World, u = wc := ⟨_, rfl⟩
      clear HK HK0 HD6
      go_wp2_with fail
      go_loopw [68] (fun s wx => ∃ q : Nat, s = .int .i64 q ∧ q ≤ 3 ∧ Hid (Held w6 W0.heap.size ra rn rc wx) ∧ Hid (RowB wx T 0 bs)) (fun s _ => 3 - (intOf s).toNat)
      case atStart => exact ⟨0, by go_num, by omega, HD7, HT7⟩
      case round =>
        obtain ⟨q, rfl, hq, HDq, HTq⟩ := hrel
        obtain ⟨wq, rfl⟩ : ∃ u : World, u = wr := ⟨_, rfl⟩
        clear HD7 HT7
        by_cases hq3 : q = 3
        · subst hq3
          go_wp2_with fail
          refine (awake11 _).mono ?_
          rintro e z2 ⟨rfl, hb⟩
          have HBZ := Lib.hid (HBW6.out.trans ((HDq.out.below hb).ap.below (by omega) (by have := HBW6.out.size; omega)))
          clear hb
          go_wp2_with fail
          go_ret
          exact ⟨rfl, HBZ.out⟩
        have hqi : (q : Int) < 3 := by omega
        obtain ⟨c, hc⟩ : ∃ c, bs[q]? = some c := ⟨_, List.getElem?_eq_getElem (by omega)⟩
        obtain ⟨l0, l1, l2, l3⟩ := HTq.out.at0 hc
        obtain ⟨w8, hw⟩ : ∃ w', wq.alloc (.cells #[.int .i64 c.bn, .int .i64 c.bd, .int .i64 c.rn, .int .i64 c.rd] 74) = w' := ⟨_, rfl⟩
        have hz : Below wq.heap.size wq w8 := by rw [← hw]; exact below_box _
        have HD8 := Lib.hid (HDq.out.below hz)
        have HT8 := Lib.hid (HTq.out.under hz)
        have XC := Lib.hid (show Bk4 w8 wq.heap.size c.bn c.bd c.rn c.rd by rw [← hw]; exact Bk4.new _ _ _ _ _ _)
        have hCb : wq.heap.size ≠ W0.heap.size := by have := HDq.out.lt; omega
        have HW := Lib.hid hw
        clear hc hw hz HDq HTq
        go_upto_region 16 with fail
        try rw [HW.out]
        obtain ⟨C, hC⟩ : ∃ B, wq.heap.size = B := ⟨_, rfl⟩
        rw [hC] at XC hCb
        try rw [hC]
        clear HW hC l0 l1 l2 l3
        go_wp2_with fail
        refine (n_any 2 (by omega) (by omega) _ ra rn rc _ (HD8.out.at HS6.out)).mono ?_
        rintro e u9 ⟨r, ⟨r0, r1⟩, rfl, hs, he⟩
        obtain ⟨m, hm⟩ : ∃ m : Nat, 381 + r = (m : Int) := ⟨(381 + r).toNat, by omega⟩
        have hmb : m ≤ 382 := by omega
        have hmw : IntKind.i64.wrap (m : Int) = (m : Int) := IntWalk.i64_in _ ⟨by omega, by omega⟩
        have hmkm := hmk m (by omega)
        have HD9 := Lib.hid (HD8.out.call hs he.apart)
        have HT9 := Lib.hid (HT8.out.apart he.apart hTb)
        have XC9 := Lib.hid (XC.out.apart he.apart hCb)
        clear hs he HD8 HT8 XC
        obtain ⟨w10, hw⟩ : ∃ w', u9.alloc (.cells (madeCells #[.int .i64 0] m) 3) = w' := ⟨_, rfl⟩
        have hz10 : Below u9.heap.size u9 w10 := by rw [← hw]; exact below_box _
        obtain ⟨os, hol, _, hor⟩ := (show Lst In64 u9.heap.size m w10 by rw [← hw]; exact Lst.make u9 m ⟨by omega, by omega⟩).row (by omega) (fun z hz => hz)
        have HD10 := Lib.hid (HD9.out.below hz10)
        have HT10 := Lib.hid (HT9.out.under hz10)
        have XC10 := Lib.hid (XC9.out.below hz10)
        have RA := Lib.hid (R6.out.apart9 HD10.out.ap HZ0.out.2)
        have RG := Lib.hid (HG6.out.apart9 HD10.out.ap (fun x hx _ => by cases hx; exact hng))
        have RE := Lib.hid (RO6.out.apart9 HD10.out.ap (fun x hx _ => by cases hx; exact hnE))
        have hS10 : w10.heap.size = u9.heap.size + 1 := by rw [← hw]; simp
        have HW := Lib.hid hw
        obtain ⟨w11, hw2⟩ : ∃ w', w10.alloc (.cells #[.slice a1 n1 c1, .slice (some ⟨G, 0, none⟩) k k, .slice (some ⟨E, 0, none⟩) k c2, .slice (some ⟨u9.heap.size, 0, none⟩) m m] 22) = w' := ⟨_, rfl⟩
        have hz11 : Below w10.heap.size w10 w11 := by rw [← hw2]; exact below_box _
        have SL := Lib.hid (show Sl4 w11 w10.heap.size by rw [← hw2]; exact sl4_new RA.out RG.out RE.out hor _)
        have HD11 := Lib.hid (HD10.out.below hz11)
        have HT11 := Lib.hid (HT10.out.under hz11)
        have XC11 := Lib.hid (XC10.out.below hz11)
        have HW2 := Lib.hid hw2
        clear hw hw2 hz10 hz11 hor hol HD10 HT10 XC10 HD9 HT9 XC9 RA RG RE
        go_upto_block 4 with fail
        try rw [HW.out]
        try rw [HW2.out]
        rw [hS10] at SL
        obtain ⟨S, hS⟩ : ∃ B, u9.heap.size + 1 = B := ⟨_, rfl⟩
        rw [hS] at SL
        try rw [hS]
        clear HW HW2 hS hS10
        go_wp2_with fail
        go_loopw [81] (fun s wx => ∃ j : Nat, s = .int .i64 j ∧ j ≤ 4 ∧ Hid (Below w11.heap.size w11 wx)) (fun s _ => 4 - (intOf s).toNat)
        case atStart => exact ⟨0, by go_num, by omega, Below.refl _ _⟩
        case round =>
          obtain ⟨j, rfl, hj, HWB⟩ := hrel
          obtain ⟨z1, rfl⟩ : ∃ u : World, u = wr := ⟨_, rfl⟩
          by_cases hj4 : j = 4
          · subst hj4
            have HD12 := Lib.hid (HD11.out.below HWB.out)
            have HT12 := Lib.hid (HT11.out.under HWB.out)
            go_wp2_with fail
            go_roundw
            case rel => exact ⟨q + 1, by go_num, by omega, HD12, HT12⟩
            case measure => simp [intOf]; omega
          have hji : (j : Int) < 4 := by omega
          obtain ⟨aj, nj, cj, xj, hcell, hrw⟩ := (SL.out.under HWB.out) j (by omega)
          have RJ := Lib.hid hrw
          have XC12 := Lib.hid (XC11.out.below HWB.out)
          obtain ⟨⟨x, y, ec⟩, hE⟩ := excIs_ex c.rn c.rd (okB c.bn c.bd && okB c.rn c.rd) (fun h => by rw [Bool.and_eq_true] at h; exact ((okB_iff _ _).1 h.2).2) xj newF
          have HE := Lib.hid hE
          clear hrw hE
          obtain ⟨d0, d1, d2, d3⟩ := XC12.out
          go_wp2_with fail
          clear d0 d1 d2 d3
          refine (excess_any c.bn c.bd c.rn c.rd xj _ HE.out aj nj cj _ RJ.out).mono ?_
          rintro e z2 ⟨rfl, hb⟩
          obtain ⟨z3, hw⟩ : ∃ w', z2.alloc (.cells #[.int .i64 x, .int .i64 y] 72) = w' := ⟨_, rfl⟩
          have hz : Below z1.heap.size z1 z3 := by rw [← hw]; exact hb.trans ((below_box _).mono hb.size)
          have HWB3 := Lib.hid (HWB.out.trans (hz.mono HWB.out.size))
          have XC13 := Lib.hid (XC12.out.below hz)
          have RJ3 := Lib.hid (RJ.out.under hz)
          have Y1 := Lib.hid (show Box z3 z2.heap.size x y by rw [← hw]; exact Box.new _ _ _ _)
          have HW := Lib.hid hw
          clear hb hw hz hcell
          go_upto_region 20 with fail
          try rw [HW.out]
          obtain ⟨Q, hQ⟩ : ∃ B, z2.heap.size = B := ⟨_, rfl⟩
          rw [hQ] at Y1
          try rw [hQ]
          clear HW hQ
          obtain ⟨d0, d1, d2, d3⟩ := XC13.out
          go_wp2_with fail
          clear d0 d1 d2 d3
          refine (rexcess_any c.bn c.bd c.rn c.rd xj _ HE.out aj nj cj _ RJ3.out).mono ?_
          rintro e z4 ⟨rfl, hb⟩
          obtain ⟨z5, hw⟩ : ∃ w', z4.alloc (.cells #[.int .i64 x, .int .i64 y] 72) = w' := ⟨_, rfl⟩
          have hz : Below z3.heap.size z3 z5 := by rw [← hw]; exact hb.trans ((below_box _).mono hb.size)
          have HWB5 := Lib.hid (HWB3.out.trans (hz.mono HWB3.out.size))
          have Y1 := Lib.hid (Y1.out.below hz)
          have Y2 := Lib.hid (show Box z5 z4.heap.size x y by rw [← hw]; exact Box.new _ _ _ _)
          have HW := Lib.hid hw
          clear hb hw hz
          go_upto_region 21 with fail
          try rw [HW.out]
          obtain ⟨Q2, hQ⟩ : ∃ B, z4.heap.size = B := ⟨_, rfl⟩
          rw [hQ] at Y2
          try rw [hQ]
          clear HW hQ
          obtain ⟨d0, d1, d2, d3⟩ := Y1.out
          obtain ⟨e0, e1, e2, e3⟩ := Y2.out
          go_wp2_with fail
          go_roundw
          case rel => exact ⟨j + 1, by go_num, by omega, HWB5⟩
          case measure => simp [intOf]; omega

end Go.Proofs.Ytombgfpheiopgaa
