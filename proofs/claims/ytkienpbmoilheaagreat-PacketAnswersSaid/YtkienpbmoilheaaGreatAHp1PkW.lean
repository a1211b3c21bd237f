/- Hop of package packet. By the verifier's side. -/
import Derived.Test.YtkienpbmoilheaaGreatAPwEKeepTPwFPwG
import Derived.Test.YtkienpbmoilheaaGreatACurMToDecM
import Derived.Test.YtkienpbmoilheaaGreatAAvFAvWPk1PkD
import Derived.Test.YtkienpbmoilheaaGreatARefA
import Derived.Test.YtkienpbmoilheaaGreatARefV
import Derived.Test.YtkienpbmoilheaaGreatATrTTrU
namespace Go.Proofs.YtkienpbmoilheaaGreat
open Go.RowKit
set_option linter.unusedSimpArgs false
set_option linter.unusedVariables false

set_option maxRecDepth 100000 in
set_option maxHeartbeats 3200000 in
theorem hop15_ok (a : Option Addr) (n cap : Nat) (zs : List Int) (p : Nat) (inc : Int) (g : Good zs p inc) (m : Int) (hm : 1 ≤ m ∧ m ≤ 1500) (w : World) (h : RowZ w a n cap zs) :
    Calls Tryz.prog 13 #[curV a n cap p inc, .int .i64 m] w (GivesE (eHop (m - 1) zs p inc) w) := by
  obtain ⟨W, hW⟩ : ∃ W, (w.alloc (.cells #[.slice a n cap, .int .i64 p, .int .i64 inc] 24)).alloc (.cells #[.slice none 0 0, .int .i64 0, .int .i64 0] 24) = W := ⟨_, rfl⟩
  have hB : Below w.heap.size w W := by rw [← hW]; exact ((Below.refl _ _).alloc (Nat.le_refl _) _).alloc (by simp) _
  have hWs : W.heap.size = w.heap.size + 2 := by rw [← hW]; simp
  have HB := Lib.hid hB
  have HWS := Lib.hid hWs
  have KR := Lib.hid (show Cur3 W (w.heap.size + 1) (.slice none 0 0) (.int .i64 0) (.int .i64 0) by rw [← hW]; exact Cur3.new2 w _ _ _ _ _)
  have K0 := Lib.hid (show Cur3 W w.heap.size (.slice a n cap) (.int .i64 p) (.int .i64 inc) by rw [← hW]; exact (Cur3.new w _ _ _ _).alloc _)
  have HR := Lib.hid (h.under hB)
  have HG := Lib.hid g
  have HW := Lib.hid hW
  have hp64 : In64 (p : Int) := ⟨by have := g.p2; omega, by have := g.p2; omega⟩
  have hi64 : In64 inc := ⟨by have := g.i0; omega, by have := g.i1; omega⟩
  have HV := Lib.hid (valid_any a n cap zs p inc hp64 hi64 true ((okC_iff zs p inc).2 g))
  have ho : (decide (m < 1) || decide (1500 < m)) = false := by simp; omega
  have HO := Lib.hid ho
  obtain ⟨hm1, hm2⟩ := hm
  have hw1 : IntKind.i64.wrap (m - 1) = m - 1 := IntWalk.i64_in _ ⟨by omega, by omega⟩
  obtain ⟨c0, c1, c2, f0, f1, f2⟩ := K0.out
  clear hB hWs h g hW hp64 hi64 ho
  go_enter Tryz.func13, Tryz.ntmps13
  go_upto_region 1 with fail
  try rw [HW.out]
  go_wp2_with fail
  clear c0 c1 c2 f0 f1 f2
  refine (HV.out _ HR.out).mono ?_
  rintro e v1 ⟨rfl, hb1⟩
  have B1 := Lib.hid hb1
  clear hb1
  go_wp2_with fail
  refine (outside15 m 1 1500 false HO.out _).mono ?_
  rintro e v1' ⟨rfl, rfl⟩
  obtain ⟨c0, c1, c2, f0, f1, f2⟩ := K0.out.below B1.out
  go_wp2_with fail
  clear c0 c1 c2 f0 f1 f2
  refine (lower_ok a n cap zs p inc HG.out (m - 1) (by omega) (by omega) _ (HR.out.under B1.out)).mono ?_
  rintro e v2 ⟨hb2, ⟨a2, n2, cap2, z2, p2, i2, rfl, hr2, hf2, hx2⟩ | ⟨rfl, hno⟩⟩
  · obtain ⟨V, hV⟩ : ∃ V, v2.alloc (.cells #[.slice a2 n2 cap2, .int .i64 p2, .int .i64 i2] 24) = V := ⟨_, rfl⟩
    have hbv : Below v2.heap.size v2 V := by rw [← hV]; exact (Below.refl _ _).alloc (Nat.le_refl _) _
    have B2 := Lib.hid (show Below W.heap.size W V from B1.out.trans ((hb2.trans (hbv.mono hb2.size)).mono B1.out.size))
    have K2 := Lib.hid (show Cur3 V v2.heap.size (.slice a2 n2 cap2) (.int .i64 p2) (.int .i64 i2) by rw [← hV]; exact Cur3.new v2 _ _ _ _)
    have R2 := Lib.hid (hr2.under hbv)
    have F2 := Lib.hid hf2
    have KRV := Lib.hid (KR.out.below B2.out)
    have HBV := Lib.hid (HB.out.trans (B2.out.mono HB.out.size))
    have HL := Lib.hid (hop_later hf2.2.1)
    have HV2 := Lib.hid hV
    clear hb2 hbv hr2 hf2 hx2 hV
    go_upto_region 6 with fail
    try rw [HV2.out]
    obtain ⟨c0, c1, c2, f0, f1, f2⟩ := K2.out
    go_wp2_with fail
    clear c0 c1 c2 f0 f1 f2
    refine (later_ok a2 n2 cap2 z2 p2 i2 F2.out.1 1 (by omega) _ R2.out).mono ?_
    rintro e v9 ⟨hb, ⟨a9, n9, cap9, z9, p9, i9, rfl, hr, hf, hx⟩ | ⟨rfl, hno⟩⟩
    · have HP := Lib.hid (GivesE.post (E := eHop (m - 1) zs p inc) (b := w.heap.size + 1) HBV.out (by omega) KRV.out.lt hb hr hx (by rw [← HL.out]; exact hf))
      obtain ⟨r0, r1, r2, r3, r4, r5⟩ := KRV.out.below hb
      clear hb hr hf hx
      go_wp2_with fail
      exact bodyPost_ret (v := .tuple #[curV a9 n9 cap9 p9 i9, .int .i64 0]) (by simp [results, Tryz.results13, go_sem, r0, r1, r2]) rfl HP.out
    · have HP := Lib.hid (GivesE.postNo (E := eHop (m - 1) zs p inc) (b := w.heap.size + 1) HBV.out (by omega) hb (by rw [← HL.out]; exact hno))
      obtain ⟨r0, r1, r2, r3, r4, r5⟩ := KRV.out.below hb
      clear hb hno
      go_wp2_with fail
      exact bodyPost_ret (v := .tuple #[curV none 0 0 0 0, .int .i64 3]) (by simp [results, Tryz.results13, go_sem, r0, r1, r2]) rfl HP.out
  · obtain ⟨V, hV⟩ : ∃ V, v2.alloc (.cells #[.slice none 0 0, .int .i64 0, .int .i64 0] 24) = V := ⟨_, rfl⟩
    have hbv : Below v2.heap.size v2 V := by rw [← hV]; exact (Below.refl _ _).alloc (Nat.le_refl _) _
    have B2 := Lib.hid (show Below W.heap.size W V from B1.out.trans ((hb2.trans (hbv.mono hb2.size)).mono B1.out.size))
    have KRV := Lib.hid (KR.out.below B2.out)
    have HBV := Lib.hid (HB.out.trans (B2.out.mono HB.out.size))
    have HN := Lib.hid (show ¬ ECan (eHop (m - 1) zs p inc) from fun hc => hno (hop_can hc))
    have HV2 := Lib.hid hV
    clear hb2 hbv hno hV
    go_upto_region 6 with fail
    try rw [HV2.out]
    have HP := Lib.hid (GivesE.postNo (E := eHop (m - 1) zs p inc) (b := w.heap.size + 1) HBV.out (by omega) (Below.refl _ _) HN.out)
    obtain ⟨r0, r1, r2, r3, r4, r5⟩ := KRV.out
    go_wp2_with fail
    exact bodyPost_ret (v := .tuple #[curV none 0 0 0 0, .int .i64 3]) (by simp [results, Tryz.results13, go_sem, r0, r1, r2]) rfl HP.out
end Go.Proofs.YtkienpbmoilheaaGreat

namespace Go.Proofs.YtkienpbmoilheaaGreat
open Go.RowKit
set_option linter.unusedSimpArgs false
set_option linter.unusedVariables false

def exP15 : List Pk := [⟨0, 0, 10⟩, ⟨0, 0, 5⟩, ⟨0, 3, 20⟩]
def exD15 : List Int := [-1, 2, 7]
theorem ex15_code : dcode exP15 exD15 = 0 := by kernel_rfl
theorem ex15_fwd : fwdP exP15 exD15 = [⟨0, 3, 5⟩, ⟨0, 8, 20⟩] := by kernel_rfl
theorem ex15_ix : fwdX exP15 exD15 = [1, 2] := by kernel_rfl
theorem ex15_del : delX exP15 exD15 = [-1, 2, 4] := by kernel_rfl
theorem ex15_whole : wholeA exP15 0 30 = 15 := by kernel_rfl
theorem ex15_new (w : World) (t : TypeId) : PkR (w.alloc (.cells #[.int .i64 0, .int .i64 0, .int .i64 10, .int .i64 0, .int .i64 0, .int .i64 5, .int .i64 0, .int .i64 3, .int .i64 20] t)) (some ⟨w.heap.size, 0, none⟩) 3 3 exP15 :=
  pkR_new (l := exP15) (by decide) (fun q hq => by
    unfold exP15 at hq
    simp only [List.mem_cons, List.not_mem_nil, or_false] at hq
    rcases hq with rfl | rfl | rfl <;> exact ⟨⟨by decide, by decide⟩, ⟨by decide, by decide⟩, ⟨by decide, by decide⟩⟩) (fun i q hq => by
    rcases i with _ | _ | _ | i
    · cases hq; exact ⟨rfl, rfl, rfl⟩
    · cases hq; exact ⟨rfl, rfl, rfl⟩
    · cases hq; exact ⟨rfl, rfl, rfl⟩
    · cases hq)
theorem row_new15 {w : World} {zs : List Int} {cs : Array Value} {t : TypeId} {n : Nat} (hl : zs.length = n) (hn : n ≤ 1000) (hc : ∀ i, i < n → cs[i]? = some (.int .i64 (zs.getD i 0))) (hb : ∀ i, i < n → In64 (zs.getD i 0)) : RowZ (w.alloc (.cells cs t)) (some ⟨w.heap.size, 0, none⟩) n n zs :=
  ⟨hl, Nat.le_refl _, by omega, by omega, fun i hi => ⟨_, rfl, by
    have ea : ((⟨w.heap.size, 0, none⟩ : Addr).add i) = ⟨w.heap.size, i, none⟩ := by unfold Addr.add; split <;> simp_all
    rw [ea]
    exact cell_new13 (hc i hi)⟩, hb⟩
theorem row1_15 (w : World) (x : Int) (hx : In64 x) (t : TypeId) : RowZ (w.alloc (.cells #[.int .i64 x] t)) (some ⟨w.heap.size, 0, none⟩) 1 1 [x] :=
  row_new15 rfl (by omega) (fun i hi => by have : i = 0 := by omega
                                           subst this; rfl) (fun i hi => by have : i = 0 := by omega
                                                                            subst this; exact hx)
theorem row2_15 (w : World) (x y : Int) (hx : In64 x) (hy : In64 y) (t : TypeId) : RowZ (w.alloc (.cells #[.int .i64 x, .int .i64 y] t)) (some ⟨w.heap.size, 0, none⟩) 2 2 [x, y] :=
  row_new15 rfl (by omega) (fun i hi => by
    have : i = 0 ∨ i = 1 := by omega
    rcases this with rfl | rfl <;> rfl) (fun i hi => by
    have : i = 0 ∨ i = 1 := by omega
    rcases this with rfl | rfl
    · exact hx
    · exact hy)
theorem row3_15 (w : World) (x y z : Int) (hx : In64 x) (hy : In64 y) (hz : In64 z) (t : TypeId) : RowZ (w.alloc (.cells #[.int .i64 x, .int .i64 y, .int .i64 z] t)) (some ⟨w.heap.size, 0, none⟩) 3 3 [x, y, z] :=
  row_new15 rfl (by omega) (fun i hi => by
    have : i = 0 ∨ i = 1 ∨ i = 2 := by omega
    rcases this with rfl | rfl | rfl <;> rfl) (fun i hi => by
    have : i = 0 ∨ i = 1 ∨ i = 2 := by omega
    rcases this with rfl | rfl | rfl
    · exact hx
    · exact hy
    · exact hz)

theorem ex15_line (t : Nat) : atC [0] 1 10 t = 10 * (t : Int) := by
  unfold atC
  by_cases h : t = 0
  · subst h; rfl
  · rw [if_neg (by simp; omega), if_neg (by decide)]
    have e : (t - [(0 : Int)].length) / 1 + 1 = t := by simp; omega
    rw [e]
    simp
    omega
theorem ex15_good : Good [0] 1 10 := (okC_iff [0] 1 10).1 (by decide)
theorem ex15_fin : ¬ InfC [(0 : Int)] := by unfold InfC; decide
theorem ex15_hop (t : Nat) : eHop 14 [0] 1 10 t = some (if t = 0 then 0 else max (10 * ((t : Int) - 1) - 14) 0) := by
  unfold eHop
  by_cases h : t = 0
  · rw [if_pos h, if_pos h]
  · rw [if_neg h, if_neg h]
    unfold eLower
    rw [eC_fin ex15_fin, ex15_line, show ((t - 1 : Nat) : Int) = (t : Int) - 1 by omega]; rfl
theorem ex15_can : ECan (eHop 14 [0] 1 10) :=
  can_fin (F := fun t => if t = 0 then 0 else max (10 * ((t : Int) - 1) - 14) 0) (s := 3) (p := 1) (c := 10) ex15_hop (fun t ht => by
    show (if t + 1 = 0 then (0 : Int) else _) = (if t = 0 then 0 else _) + 10
    rw [if_neg (by omega), if_neg (by omega)]; omega) (by omega) (by omega) (by omega) (by decide) (fun t ht => by
    show (if t = 0 then (0 : Int) else _) ≤ if t + 1 = 0 then 0 else _
    rw [if_neg (show ¬ t + 1 = 0 by omega)]
    split <;> omega) (by decide) (by decide)

set_option maxRecDepth 100000 in
set_option maxHeartbeats 3200000 in
theorem awake15 (w : World) : Calls Tryz.prog 6 #[] w (Says (.bool true) w) := by
  go_enter Tryz.func6, Tryz.ntmps6
  have hh : Calls Tryz.prog 13 #[curV (some ⟨w.heap.size, 0, none⟩) 1 1 1 10, .int .i64 15] (w.alloc (.cells #[.int .i64 0] 3)) fun e w' => ∃ a n cap zs p inc, e = .returned (.tuple #[curV a n cap ((p : Nat) : Int) inc, .int .i64 0]) ∧ Hid (Below w.heap.size w w') ∧ Hid (RowZ w' a n cap zs ∧ EForm zs p inc (eHop 14 [0] 1 10)) := by
    refine (hop15_ok (some ⟨w.heap.size, 0, none⟩) 1 1 [0] 1 10 ex15_good 15 (by omega) _ (row1_15 w 0 ⟨by decide, by decide⟩ _)).mono ?_
    rintro e w' ⟨hb, ⟨a, n, cap, zs, p, inc, rfl, hr, hf, hx⟩ | ⟨_, hno⟩⟩
    · exact ⟨a, n, cap, zs, p, inc, rfl, Lib.hid (((Below.refl _ _).alloc (Nat.le_refl _) _).trans (hb.mono (by simp))), Lib.hid ⟨hr, hf⟩⟩
    · exact absurd ex15_can hno
  have HH := Lib.hid hh
  clear hh
  go_wp2_with fail
  refine HH.out.mono ?_
  rintro e v1 ⟨ah, nh, ch, zh, ph, ih, rfl, B1, F1⟩
  go_upto_region 2 with fail
  obtain ⟨V, hV⟩ : ∃ V, v1.alloc (.cells #[.slice ah nh ch, .int .i64 ph, .int .i64 ih] 24) = V := ⟨_, rfl⟩
  have hbv : Below v1.heap.size v1 V := by rw [← hV]; exact (Below.refl _ _).alloc (Nat.le_refl _) _
  have BV := Lib.hid (B1.out.trans (hbv.mono B1.out.size))
  have KV := Lib.hid (show Cur3 V v1.heap.size (.slice ah nh ch) (.int .i64 ph) (.int .i64 ih) by rw [← hV]; exact Cur3.new v1 _ _ _ _)
  have RV := Lib.hid (F1.out.1.under hbv)
  have FV := Lib.hid F1.out.2
  rw [hV]
  clear hV hbv
  go_upto_region 3 with fail
  obtain ⟨V2, hV2⟩ : ∃ V2, V.alloc (.cells #[.int .i64 0, .int .i64 0, .int .i64 10, .int .i64 0, .int .i64 0, .int .i64 5, .int .i64 0, .int .i64 3, .int .i64 20] 54) = V2 := ⟨_, rfl⟩
  have hb2 : Below V.heap.size V V2 := by rw [← hV2]; exact (Below.refl _ _).alloc (Nat.le_refl _) _
  have P2 := Lib.hid (show PkR V2 (some ⟨V.heap.size, 0, none⟩) 3 3 exP15 by rw [← hV2]; exact ex15_new V _)
  have B2 := Lib.hid hb2
  rw [hV2]
  clear hV2 hb2
  have hf : Calls Tryz.prog 21 #[.slice (some ⟨V.heap.size, 0, none⟩) 3 3, .slice (some ⟨V2.heap.size, 0, none⟩) 3 3] (V2.alloc (.cells #[.int .i64 (-1), .int .i64 2, .int .i64 7] 3)) fun e w' => ∃ a1 c1 a2 n2 c2, e = .returned (.tuple #[.slice a1 2 c1, .slice a2 n2 c2, .int .i64 0]) ∧ Hid (Below V2.heap.size V2 w') ∧ Hid (PkR w' a1 2 c1 [⟨0, 3, 5⟩, ⟨0, 8, 20⟩] ∧ RowZ w' a2 n2 c2 [1, 2]) := by
    refine (forward15 (some ⟨V.heap.size, 0, none⟩) 3 3 exP15 (some ⟨V2.heap.size, 0, none⟩) 3 3 exD15 _ (P2.out.under ((Below.refl _ _).alloc (Nat.le_refl _) _)) (row3_15 V2 (-1) 2 7 ⟨by decide, by decide⟩ ⟨by decide, by decide⟩ ⟨by decide, by decide⟩ _)).mono ?_
    rw [ex15_fwd, ex15_ix, ex15_code]
    rintro e w' ⟨a1, n1, c1, a2, n2, c2, rfl, hb, hp, hz, _⟩
    obtain rfl : n1 = 2 := by rw [← hp.len]; rfl
    exact ⟨a1, c1, a2, n2, c2, rfl, Lib.hid (((Below.refl _ _).alloc (Nat.le_refl _) _).trans (hb.mono (by simp))), Lib.hid ⟨hp, hz⟩⟩
  have HF := Lib.hid hf
  clear hf
  go_wp2_with fail
  refine HF.out.mono ?_
  rintro e v3 ⟨a1, c1, a2, n2, c2, rfl, B3, F3⟩
  have hd : Calls Tryz.prog 23 #[.slice (some ⟨V.heap.size, 0, none⟩) 3 3, .slice (some ⟨v3.heap.size, 0, none⟩) 3 3] (v3.alloc (.cells #[.int .i64 (-1), .int .i64 2, .int .i64 7] 3)) fun e w' => ∃ a n c, e = .returned (.tuple #[.slice a n c, .int .i64 0]) ∧ Hid (Below v3.heap.size v3 w') ∧ Hid (RowZ w' a n c [-1, 2, 4]) := by
    refine (delays15 (some ⟨V.heap.size, 0, none⟩) 3 3 exP15 (some ⟨v3.heap.size, 0, none⟩) 3 3 exD15 _ ((P2.out.under B3.out).under ((Below.refl _ _).alloc (Nat.le_refl _) _)) (row3_15 v3 (-1) 2 7 ⟨by decide, by decide⟩ ⟨by decide, by decide⟩ ⟨by decide, by decide⟩ _)).mono ?_
    rw [ex15_del, ex15_code]
    rintro e w' ⟨a, n, c, rfl, hb, hz, _⟩
    exact ⟨a, n, c, rfl, Lib.hid (((Below.refl _ _).alloc (Nat.le_refl _) _).trans (hb.mono (by simp))), Lib.hid hz⟩
  have HD := Lib.hid hd
  clear hd
  go_wp2_with fail
  refine HD.out.mono ?_
  rintro e v4 ⟨a4, n4, c4, rfl, B4, F4⟩
  have hB4 : Below V.heap.size V v4 := B2.out.trans ((B3.out.trans (B4.out.mono B3.out.size)).mono B2.out.size)
  have BF := Lib.hid hB4
  clear hB4
  have hp64 : In64 (ph : Int) := ⟨by have := FV.out.1.p2; omega, by have := FV.out.1.p2; omega⟩
  have hi64 : In64 ih := ⟨by have := FV.out.1.i0; omega, by have := FV.out.1.i1; omega⟩
  have H64 := Lib.hid (And.intro hp64 hi64)
  have HAT := Lib.hid (show ∀ t : Nat, atC zh ph ih t = if t = 0 then 0 else max (10 * ((t : Int) - 1) - 14) 0 from fun t => FV.out.at (ex15_hop t))
  have KP := Lib.hid (show ∀ v, Below V.heap.size V v → (v.cell? ⟨v1.heap.size, 0, none⟩ = some (.slice ah nh ch) ∧ v.cell? ⟨v1.heap.size, 1, none⟩ = some (.int .i64 ph) ∧ v.cell? ⟨v1.heap.size, 2, none⟩ = some (.int .i64 ih)) from fun v hv => by
    obtain ⟨x0, x1, x2, _, _, _⟩ := KV.out.below hv
    exact ⟨x0, x1, x2⟩)
  clear hp64 hi64
  obtain ⟨x0, x1, x2⟩ := KP.out _ BF.out
  go_wp2_with fail
  refine (rvalid_any ah nh ch zh ph ih H64.out.1 H64.out.2 true ((okC_iff zh ph ih).2 FV.out.1) _ (RV.out.under BF.out)).mono ?_
  rintro e v5 ⟨rfl, hb5⟩
  have B5 := Lib.hid (BF.out.trans (hb5.mono BF.out.size))
  have Q5 := Lib.hid (hb5)
  clear x0 x1 x2 hb5
  obtain ⟨x0, x1, x2⟩ := KP.out _ B5.out
  go_wp2_with fail
  refine (rat_at ah nh ch zh ph ih FV.out.1 2 2 rfl (by omega) 0 (by rw [HAT.out]; decide) _ (RV.out.under B5.out)).mono ?_
  rintro e v6 ⟨rfl, hb6⟩
  have B6 := Lib.hid (B5.out.trans (hb6.mono B5.out.size))
  have Q6 := Lib.hid (Q5.out.trans (hb6.mono Q5.out.size))
  clear x0 x1 x2 hb6
  obtain ⟨x0, x1, x2⟩ := KP.out _ B6.out
  go_wp2_with fail
  refine (rat_at ah nh ch zh ph ih FV.out.1 3 3 rfl (by omega) 6 (by rw [HAT.out]; decide) _ (RV.out.under B6.out)).mono ?_
  rintro e v7 ⟨rfl, hb7⟩
  have B7 := Lib.hid (B6.out.trans (hb7.mono B6.out.size))
  have Q7 := Lib.hid (Q6.out.trans (hb7.mono Q6.out.size))
  clear x0 x1 x2 hb7
  obtain ⟨x0, x1, x2⟩ := KP.out _ B7.out
  go_wp2_with fail
  refine (rat_at ah nh ch zh ph ih FV.out.1 4 4 rfl (by omega) 16 (by rw [HAT.out]; decide) _ (RV.out.under B7.out)).mono ?_
  rintro e v8 ⟨rfl, hb8⟩
  have B8 := Lib.hid (B7.out.trans (hb8.mono B7.out.size))
  have Q8 := Lib.hid (Q7.out.trans (hb8.mono Q7.out.size))
  clear x0 x1 x2 hb8
  go_wp2_with fail
  refine (whole15 _ 3 3 exP15 0 30 15 ⟨by decide, by decide⟩ ex15_whole _ (((P2.out.under B3.out).under B4.out).under Q8.out)).mono ?_
  rintro e v9 ⟨rfl, hb9⟩
  have B9 := Lib.hid (B8.out.trans (hb9.mono B8.out.size))
  have Q9 := Lib.hid (Q8.out.trans (hb9.mono Q8.out.size))
  have P9 := Lib.hid ((F3.out.1.under B4.out).under Q9.out)
  clear hb9
  obtain ⟨Bp, op, qp, hap, hcp, hqp, _⟩ := P9.out.at (show 1 < 2 by decide)
  subst hap
  cases hqp
  obtain ⟨_, d1, _⟩ := hcp 1 ⟨0, 8, 20⟩ rfl
  dsimp only at d1
  clear hcp
  have hi1 : Calls Tryz.prog 26 #[.slice a2 n2 c2, .slice (some ⟨v9.heap.size, 0, none⟩) 2 2] (v9.alloc (.cells #[.int .i64 1, .int .i64 2] 3)) fun e w' => e = .returned (.bool true) ∧ Hid (Below v9.heap.size v9 w') := by
    refine (rints5_any a2 n2 c2 [1, 2] (some ⟨v9.heap.size, 0, none⟩) 2 2 [1, 2] true (by decide) _ (((F3.out.2.under B4.out).under Q9.out).under ((Below.refl _ _).alloc (Nat.le_refl _) _)) (row2_15 v9 1 2 ⟨by decide, by decide⟩ ⟨by decide, by decide⟩ _)).mono ?_
    rintro e w' ⟨rfl, m, rfl⟩
    exact ⟨rfl, Lib.hid (((Below.refl _ _).alloc (Nat.le_refl _) _).drewN _)⟩
  have HI1 := Lib.hid hi1
  clear hi1
  go_wp2_with fail
  refine HI1.out.mono ?_
  rintro e v10 ⟨rfl, hb10⟩
  have B10 := Lib.hid (B9.out.trans (hb10.out.mono B9.out.size))
  have Q10 := Lib.hid (Q9.out.trans (hb10.out.mono Q9.out.size))
  clear hb10 d1
  have hi2 : Calls Tryz.prog 26 #[.slice a4 n4 c4, .slice (some ⟨v10.heap.size, 0, none⟩) 3 3] (v10.alloc (.cells #[.int .i64 (-1), .int .i64 2, .int .i64 4] 3)) fun e w' => e = .returned (.bool true) ∧ Hid (Below v10.heap.size v10 w') := by
    refine (rints5_any a4 n4 c4 [-1, 2, 4] (some ⟨v10.heap.size, 0, none⟩) 3 3 [-1, 2, 4] true (by decide) _ ((F4.out.under Q10.out).under ((Below.refl _ _).alloc (Nat.le_refl _) _)) (row3_15 v10 (-1) 2 4 ⟨by decide, by decide⟩ ⟨by decide, by decide⟩ ⟨by decide, by decide⟩ _)).mono ?_
    rintro e w' ⟨rfl, m, rfl⟩
    exact ⟨rfl, Lib.hid (((Below.refl _ _).alloc (Nat.le_refl _) _).drewN _)⟩
  have HI2 := Lib.hid hi2
  clear hi2
  go_wp2_with fail
  refine HI2.out.mono ?_
  rintro e v11 ⟨rfl, hb11⟩
  have HE := Lib.hid (BV.out.trans ((B10.out.trans (hb11.out.mono B10.out.size)).mono BV.out.size))
  clear hb11
  go_wp2_with fail
  go_ret
  exact ⟨rfl, HE.out⟩
end Go.Proofs.YtkienpbmoilheaaGreat
