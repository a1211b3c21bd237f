/- The walk of LineWorks. By the verifier's side. -/
import Derived.Test.YtkienpbmoilheaaELnPLnR
import Derived.Test.YtkienpbmoilheaaELnOLnT
import Derived.Test.YtkienpbmoilheaaERTrARTrB
import Derived.Deep.RegionHeld3
namespace Go.Proofs.Ytkienpbmoilheaa
open Go.RowKit
set_option linter.unusedSimpArgs false
set_option linter.unusedVariables false
theorem arrT_sum (l : List Pk) (t : Int) : sumG (bytT t) l = arrT l t := sumG_all (bytT t) l
theorem sel_m1 (l : List Pk) : sel (-1) l = l := by unfold sel; exact List.filter_eq_self.2 (fun q _ => by unfold ofFlow; simp)
theorem sel_one (l : List Pk) : sel 0 (l.map oneP) = l.map oneP := by
  unfold sel
  refine List.filter_eq_self.2 (fun q hq => ?_)
  obtain ⟨y, _, rfl⟩ := List.mem_map.1 hq
  unfold ofFlow oneP; simp
theorem bytT_one (t : Int) : ∀ l : List Pk, sumG (bytT t) (l.map oneP) = sumG (bytT t) l
  | [] => rfl
  | q :: r => by show bytT t (oneP q) + sumG _ (r.map oneP) = bytT t q + sumG _ r; rw [bytT_one t r]; rfl
theorem arr_one (l : List Pk) (s : Nat) : arr0 (l.map oneP) s = arrT l (s : Int) := by unfold arr0; rw [sel_one, bytT_one, arrT_sum]
theorem one_v {l : List Pk} (h : vcode l = 0) : vcode (l.map oneP) = 0 := by
  obtain ⟨h1, h2, h3⟩ := vcode_ok h
  refine vcode_of (by rw [List.length_map]; exact h1) (fun q hq => ?_) (List.pairwise_map.2 (h3.imp fun h => h))
  obtain ⟨y, hy, rfl⟩ := List.mem_map.1 hq
  have := (okP_iff y).1 (h2 y hy)
  exact (okP_iff _).2 (by show (0:Int) ≤ 0 ∧ (0:Int) ≤ 59 ∧ 0 ≤ y.t ∧ y.t ≤ 2000 ∧ 1 ≤ y.s ∧ y.s ≤ 1500; omega)
theorem tot_line {lp : List Pk} (hT : Trc lp) (hf : ∀ i, i < lp.length → (lp.getD i default).f < 3) {C : Int} (hC : 0 ≤ C) (t : Nat) : totS (fun c t => sentF lp (c : Int) (lineS C lp t)) t 3 = lineS C lp t := by
  have := sent_three (p := lp) (fun i hi => by have := hf i hi; omega) hT (lineS_nn hT hC t) (lineS_up (C := C) hT t)
  show (((0 + sentF lp ((0 : Nat) : Int) (lineS C lp t)) + sentF lp ((1 : Nat) : Int) (lineS C lp t)) + sentF lp ((2 : Nat) : Int) (lineS C lp t)) = lineS C lp t
  have e0 : ((0 : Nat) : Int) = 0 := rfl
  have e1 : ((1 : Nat) : Int) = 1 := rfl
  have e2 : ((2 : Nat) : Int) = 2 := rfl
  rw [e0, e1, e2]
  omega
/-- A packet's tick, or 1000. -/
def ddF (C : Int) (lp : List Pk) (i : Nat) : Int := if lnDone C lp 120 i < 0 then 1000 else lnDone C lp 120 i
def lastF (C : Int) (lp : List Pk) : Nat → Int
  | 0 => 0
  | i + 1 => ddF C lp i
theorem last_le {lp : List Pk} (hT : Trc lp) {C : Int} (hC : 0 ≤ C) (i : Nat) : 0 ≤ lastF C lp i ∧ lastF C lp i ≤ ddF C lp i ∧ ddF C lp i ≤ 1000 := by
  have hd : ∀ j, 0 ≤ ddF C lp j ∧ ddF C lp j ≤ 1000 := fun j => by
    have := doneF_bd (lineS C lp) (preS lp (j + 1)) 120
    unfold ddF lnDone
    split <;> omega
  rcases i with _ | i
  · exact ⟨Int.le_refl _, (hd 0).1, (hd 0).2⟩
  · refine ⟨(hd i).1, ?_, (hd (i + 1)).2⟩
    show ddF C lp i ≤ ddF C lp (i + 1)
    by_cases c : lnDone C lp 120 (i + 1) < 0
    · have e : ddF C lp (i + 1) = 1000 := by unfold ddF; rw [if_pos c]
      rw [e]; exact (hd i).2
    · have h := done_order hT hC (show i ≤ i + 1 by omega) (T := 120) (show 0 ≤ lnDone C lp 120 (i + 1) by omega)
      unfold ddF
      rw [if_neg (by omega), if_neg c]; exact h.2
theorem six_of {A B C D E X : Prop} (h : A ∧ B ∧ C ∧ D ∧ E ∧ Hid X) : X := h.2.2.2.2.2.out
theorem cm16 {U u v : World} (h : Below U.heap.size U u) (hb : Below u.heap.size u v) : Below U.heap.size U v := h.trans (hb.mono h.size)
set_option maxRecDepth 100000 in
set_option maxHeartbeats 6400000 in
theorem lineWorks_walk (W : World) (a : Option Addr) (n cap : Nat) (hrow : RowAt W a n cap) :
    Calls Try.prog 9 #[.slice a n cap] W fun e w' => e = .returned (.bool true) ∧ Below W.heap.size W w' := by
  have HR := Lib.hid hrow
  clear hrow
  go_enter Try.func9, Try.ntmps9
  go_wp2_with fail
  refine (new_any a n cap _ HR.out).mono ?_
  rintro e ww1 ⟨rfl, hb1, hz1', ra, rn, rc, hs1⟩
  have HB1 := Lib.hid hb1
  have HS1 := Lib.hid hs1
  have hbl : W.heap.size < ww1.heap.size := by omega
  clear hb1 hz1' hs1
  go_wp2_with fail
  refine (traffic14 12 (by omega) 3 40 (by decide) (by decide) _ ra rn rc _ HS1.out).mono ?_
  rintro e ww2 ⟨lp, a1, n1, c1, rfl, hdr, hs2, he2, hr2, hx2⟩
  have HD := Lib.hid hdr
  have HH2 := Lib.hid ((Hld13.start HS1.out).call hs2 he2)
  have P2 := Lib.hid hr2
  have X2 := Lib.hid (show ∀ x, a1 = some x → ¬ x.block = W.heap.size from fun x hx => by have := hx2 x hx; omega)
  have HLEN := Lib.hid hr2.len
  have hn12 : n1 ≤ 12 := by rw [← hr2.len]; exact hdr.len
  have HVC := Lib.hid (hdr.vcode (by omega) (by omega) (by omega))
  clear hdr hs2 he2 hr2 hx2
  go_wp2_with fail
  refine (n_any 30 (by omega) (by omega) _ ra rn rc _ (HH2.out.at HS1.out)).mono ?_
  rintro e ww3 ⟨z, ⟨hz0, hz1⟩, rfl, hs3, he3⟩
  have HH3 := Lib.hid (HH2.out.call hs3 he3.apart)
  have P3 := Lib.hid (pkR_apartZ P2.out he3.apart X2.out)
  clear hs3 he3 HH2 P2
  obtain ⟨C, hC⟩ : ∃ C, 1 + z = C := ⟨_, rfl⟩
  have hwz : IntKind.i64.wrap (1 + z) = C := by rw [hC]; exact IntWalk.i64_in _ ⟨by omega, by omega⟩
  have hC1 : 1 ≤ C := by omega
  have hC2 : C ≤ 30 := by omega
  clear hz0 hz1 hC
  have HFIN := Lib.hid (show ∀ wx, Below ww3.heap.size ww3 wx → Below W.heap.size W wx from fun wx hx => HB1.out.trans ((hldZ_below HH3.out hx).ap.below (Nat.le_refl _) HB1.out.size))
  have HT0 := Lib.hid (trc_v HVC.out)
  have hr1 : Calls Try.prog 80 #[.int .i64 C, .int .i64 3, .slice a1 n1 c1, .int .i64 120] ww3 fun e w' => ∃ v, e = .returned (.tuple #[v, .int .i64 0]) ∧ Below ww3.heap.size ww3 w' ∧ RunR w' v n1 3 121 (lnDone C lp 120) (fun c t => sentF lp (c : Int) (lineS C lp t)) :=
    lrun16_r a1 n1 c1 lp C 3 120 (ln_ok' HVC.out (drw_fl HD.out) hC1 (by omega) (by omega) (by omega)) ww3 P3.out
  have HR1 := Lib.hid hr1
  clear hr1
  go_wp2_with fail
  refine HR1.out.mono ?_
  rintro e ww4 ⟨v, rfl, hb4, hr4⟩
  have B4 := Lib.hid hb4
  have R4 := Lib.hid hr4
  obtain ⟨d1, e1, S1, o1, rfl, hd4, _⟩ := hr4.ex
  have D4 := Lib.hid hd4
  clear hb4 hr4 hd4 HR1
  go_upto_region 4 with fail
  obtain ⟨V4, hV4⟩ : ∃ V, ww4.alloc (.cells #[.slice d1 n1 e1, .slice (some ⟨S1, o1, none⟩) 3 3] 91) = V := ⟨_, rfl⟩
  have hb5 : Below ww4.heap.size ww4 V4 := by rw [← hV4]; exact (Below.refl _ _).alloc (Nat.le_refl _) _
  have X4 := Lib.hid (show TwoR V4 ww4.heap.size (.slice d1 n1 e1) (.slice (some ⟨S1, o1, none⟩) 3 3) by rw [← hV4]; exact ⟨_, World.alloc_heap_new ww4 _⟩)
  have B5 := Lib.hid (B4.out.trans (hb5.mono B4.out.size))
  have R5 := Lib.hid (R4.out.under hb5)
  have D5 := Lib.hid (D4.out.under hb5)
  rw [hV4]
  clear hV4 hb5 R4 D4 B4
  obtain ⟨b6, hb6⟩ : ∃ n, ww4.heap.size = n := ⟨_, rfl⟩
  rw [hb6] at X4 ⊢
  clear hb6
  go_wp2_with fail
  refine (serve16 C hC1 (by omega) _).mono ?_
  rintro e ww5 ⟨ac, cc, rfl, hb5, hz5, _⟩
  have B6 := Lib.hid (B5.out.trans (hb5.mono B5.out.size))
  have R6 := Lib.hid (R5.out.under hb5)
  have D6 := Lib.hid (D5.out.under hb5)
  have X6 := Lib.hid (X4.out.under hb5)
  have Z6 := Lib.hid hz5
  clear hb5 hz5 R5 D5 B5 X4
  go_upto_region 5 with fail
  obtain ⟨V5, hV5⟩ : ∃ V, ww5.alloc (.cells #[.slice ac 1 cc, .int .i64 1, .int .i64 C] 24) = V := ⟨_, rfl⟩
  have hb7 : Below ww5.heap.size ww5 V5 := by rw [← hV5]; exact (Below.refl _ _).alloc (Nat.le_refl _) _
  have K7 := Lib.hid (show Cur3 V5 ww5.heap.size (.slice ac 1 cc) (.int .i64 1) (.int .i64 C) by rw [← hV5]; exact Cur3.new ww5 _ _ _ _)
  have B7 := Lib.hid (B6.out.trans (hb7.mono B6.out.size))
  have R7 := Lib.hid (R6.out.under hb7)
  have D7 := Lib.hid (D6.out.under hb7)
  have X7 := Lib.hid (X6.out.under hb7)
  have Z7 := Lib.hid (Z6.out.under hb7)
  rw [hV5]
  clear hV5 hb7 R6 D6 B6 X6 Z6
  obtain ⟨b8, hb8⟩ : ∃ n, ww5.heap.size = n := ⟨_, rfl⟩
  rw [hb8] at K7 ⊢
  clear hb8
  obtain ⟨q0, q1⟩ := X7.out.cells
  have hso : Calls Try.prog 87 #[.slice a1 n1 c1, .agg #[.slice d1 n1 e1, .slice (some ⟨S1, o1, none⟩) 3 3], .int .i64 3, .int .i64 120] V5 (Says (.bool true) V5) :=
    sound16 a1 n1 c1 _ 3 121 _ _ 120 (by omega) V5 R7.out
  have HSO := Lib.hid hso
  clear hso
  go_wp2_with fail
  refine HSO.out.mono ?_
  rintro e ww7 ⟨rfl, hb8⟩
  have B8 := Lib.hid (B7.out.trans (hb8.mono B7.out.size))
  have R8 := Lib.hid (R7.out.under hb8)
  have D8 := Lib.hid (D7.out.under hb8)
  have X8 := Lib.hid (X7.out.under hb8)
  have Z8 := Lib.hid (Z7.out.under hb8)
  have K8 := Lib.hid (K7.out.below hb8)
  clear hb8 q0 q1 R7 D7 B7 X7 Z7 K7 HSO
  obtain ⟨q0, q1⟩ := X8.out.cells
  go_wp2_with fail
  refine (total16 _ n1 3 121 (by omega) _ _ (lineS C lp) (fun t _ => ⟨tot_line HT0.out (drw_fl HD.out) (by omega) t, lineS_nn HT0.out (by omega) t, Int.le_trans (lineS_up HT0.out t) (preS_top HT0.out).2⟩) ww7 R8.out).mono ?_
  rintro e ww8 ⟨v, rfl, hb9, hr9⟩
  obtain ⟨d2, e2, S2, o2, rfl, _, hs9⟩ := hr9.ex
  have B9' := Lib.hid (B8.out.trans (hb9.mono B8.out.size))
  have R9 := Lib.hid hr9
  have S9 := Lib.hid (hs9 0 (by omega))
  have D9 := Lib.hid (D8.out.under hb9)
  have X9 := Lib.hid (X8.out.under hb9)
  have Z9 := Lib.hid (Z8.out.under hb9)
  have K9 := Lib.hid (K8.out.below hb9)
  clear hb9 hr9 hs9 q0 q1 R8 D8 B8 X8 Z8 K8
  go_upto_region 8 with fail
  obtain ⟨V9, hV9⟩ : ∃ V, ww8.alloc (.cells #[.slice d2 n1 e2, .slice (some ⟨S2, o2, none⟩) 1 1] 91) = V := ⟨_, rfl⟩
  have hb10 : Below ww8.heap.size ww8 V9 := by rw [← hV9]; exact (Below.refl _ _).alloc (Nat.le_refl _) _
  have XT := Lib.hid (show TwoR V9 ww8.heap.size (.slice d2 n1 e2) (.slice (some ⟨S2, o2, none⟩) 1 1) by rw [← hV9]; exact ⟨_, World.alloc_heap_new ww8 _⟩)
  have B9 := Lib.hid (B9'.out.trans (hb10.mono B9'.out.size))
  have RT := Lib.hid (R9.out.under hb10)
  have DT := Lib.hid (D9.out.under hb10)
  have XR := Lib.hid (X9.out.under hb10)
  have ZT := Lib.hid (Z9.out.under hb10)
  have KT := Lib.hid (K9.out.below hb10)
  have ST := Lib.hid (show ∃ B o k, V9.cell? ⟨S2, o2, none⟩ = some (.slice (some ⟨B, o, none⟩) 121 k) ∧ RowZ V9 (some ⟨B, o, none⟩) 121 k (valsF (fun t => lineS C lp t) 121) from by
    obtain ⟨x, k, g1, g2, B, o, rfl⟩ := S9.out
    rw [Nat.add_zero] at g1
    exact ⟨B, o, k, (hb10.cell (lt_of_cell g1)).trans g1, g2.under hb10⟩)
  rw [hV9]
  clear hV9 hb10 R9 D9 X9 Z9 K9 S9 B9'
  obtain ⟨b10, hbx⟩ : ∃ n, ww8.heap.size = n := ⟨_, rfl⟩
  rw [hbx] at XT ⊢
  clear hbx
  obtain ⟨Bs, os, ks, gs, hzs⟩ := ST.out
  have HZS := Lib.hid hzs
  have HGS := Lib.hid gs
  have hkl := hzs.le
  have hkm := hzs.cm
  clear gs hzs
  have PT := Lib.hid (P3.out.under B9.out)
  go_wp2_with fail
  go_loopw [11] (fun vi wx => ∃ t : Nat, vi = .int .i64 t ∧ t ≤ 120 ∧ Hid (Below V9.heap.size V9 wx)) (fun vi _ => 120 - (intOf vi).toNat)
  case atStart => exact ⟨0, by go_num, Nat.zero_le _, Lib.hid (Below.refl _ _)⟩
  case round =>
    obtain ⟨t, rfl, ht, HT⟩ := hrel
    obtain ⟨wt, rfl⟩ : ∃ u : World, u = wr := ⟨_, rfl⟩
    by_cases hlt : t < 120
    · have hlI : (t : Int) < 120 := by omega
      obtain ⟨_, x1⟩ := (XT.out.under HT.out).cells
      have g1 := (HT.out.cell (lt_of_cell HGS.out)).trans HGS.out
      obtain ⟨y1, X, hy1, cX, _, hX, _⟩ := row_get16 (HZS.out.under HT.out) (show t < 121 by omega)
      obtain ⟨y2, Y, hy2, cY, _, hY, _⟩ := row_get16 (HZS.out.under HT.out) (show t + 1 < 121 by omega)
      rw [valsF_at _ (by omega)] at hX hY
      cases hy1
      cases hy2
      rw [WideShapes.add_plain] at cX cY
      obtain ⟨A, hA⟩ : ∃ A, arrT lp ((t + 1 : Nat) : Int) = A := ⟨_, rfl⟩
      have hA1 := arrT_nn HT0.out.nn ((t + 1 : Nat) : Int)
      have hA2 := Int.le_trans (arrT_up HT0.out.nn ((t + 1 : Nat) : Int)) (preS_top HT0.out).2
      have hS1 := lineS_nn HT0.out (show 0 ≤ C by omega) t
      have hS2 := lineS_nn HT0.out (show 0 ≤ C by omega) (t + 1)
      have hS3 := Int.le_trans (lineS_up (C := C) HT0.out t) (preS_top HT0.out).2
      have hS4 := Int.le_trans (lineS_up (C := C) HT0.out (t + 1)) (preS_top HT0.out).2
      have hst := lineS_succ C lp t
      rw [hA] at hA1 hA2 hst
      have hX' : lineS C lp t = X := hX
      have hY' : lineS C lp (t + 1) = Y := hY
      rw [hX'] at hS1 hS3 hst
      rw [hY'] at hS2 hS4 hst
      have HXY := Lib.hid (show Y = min (X + C) A from hst)
      have hwt : IntKind.i64.wrap ((t : Int) + 1) = (t : Int) + 1 := IntWalk.i64_in _ ⟨by omega, by omega⟩
      have ht0 : 0 ≤ (t : Int) + 1 := by omega
      have ht1 : (t : Int) + 1 < 121 := by omega
      have ht2 : (t : Int) < 121 := by omega
      have htn : ((t : Int) + 1).toNat = t + 1 := by omega
      have hw1 : IntKind.i64.wrap (Y - X) = Y - X := IntWalk.i64_in _ ⟨by omega, by omega⟩
      have hw2 : IntKind.i64.wrap (A - X) = A - X := IntWalk.i64_in _ ⟨by omega, by omega⟩
      have HBY := Lib.hid (show ∀ u, Below V9.heap.size V9 u → Calls Try.prog 89 #[.slice a1 n1 c1, .int .i64 (-1), .int .i64 ((t : Int) + 1)] u (fun e w' => e = .returned (.int .i64 A) ∧ w' = u) from fun u hu =>
        rbytes13 a1 n1 c1 lp (-1) ((t : Int) + 1) A (by rw [bytW_in HVC.out, sel_m1, arrT_sum, show (t : Int) + 1 = ((t + 1 : Nat) : Int) by omega, hA]) u (PT.out.under hu))
      clear hX hY hX' hY' hst hA
      go_upto_region 11 with fail
      go_quiet (fail)
      have HWQ0 := Lib.hid (HT.out.drewN nq)
      obtain ⟨wq, hwq⟩ : ∃ u, wt.drewN nq = u := ⟨_, rfl⟩
      have HWQ := Lib.hid (show Below V9.heap.size V9 wq from by rw [← hwq]; exact HT.out.drewN nq)
      have HS12 := Lib.hid (show wq.drew.cell? ⟨b10, 1, none⟩ = some (.slice (some ⟨S2, o2, none⟩) 1 1) ∧ wq.drew.cell? ⟨S2, o2, none⟩ = some (.slice (some ⟨Bs, os, none⟩) 121 ks) ∧ wq.drew.cell? ⟨Bs, os + t, none⟩ = some (.int .i64 X) from by rw [← hwq]; exact ⟨x1, g1, cX⟩)
      rw [hwq]
      clear hwq HWQ0 x1 g1 cX cY
      by_cases hmin : A - X < C
      · have HM := Lib.hid (show Y - X = A - X from by have := HXY.out; omega)
        have hbb : (Y - X != A - X) = false := by simp [HM.out]
        go_upto_region 12 with fail
        refine wp_region_keeps (fun u => u.cell? ⟨b10, 1, none⟩ = some (.slice (some ⟨S2, o2, none⟩) 1 1) ∧ u.cell? ⟨S2, o2, none⟩ = some (.slice (some ⟨Bs, os, none⟩) 121 ks) ∧ u.cell? ⟨Bs, os + t, none⟩ = some (.int .i64 X)) 15 1 (by kernel_rfl) (by kernel_rfl) HS12.out (fun hHeld0 => ?_)
        obtain ⟨ud, hud⟩ : ∃ V, wq.drew = V := ⟨_, rfl⟩
        have HUD := Lib.hid (show Below V9.heap.size V9 ud from by rw [← hud]; exact HWQ.out.trans (((Below.refl _ _).drew : Below wq.heap.size wq wq.drew).mono HWQ.out.size))
        rw [hud] at hHeld0 ⊢
        clear hud HS12
        refine wpAnyK_take (i := 0) (v := ?_) rfl (by kernel_rfl) (fun _ _ _ h => h) (Or.inl ⟨by rfl, ?_⟩) (by assumption) ?_
        rotate_left
        · (intro w hSw; (try dsimp only at hSw); go_simp; try with_reducible rfl)
        try simp only [Act.put, List.getElem_toArray, List.getElem_cons_zero, List.getElem_cons_succ, List.setIfInBounds_toArray, List.set_cons_zero, List.set_cons_succ]
        refine wpAnyK_take (i := 1) (v := ?_) rfl (by kernel_rfl) (fun _ _ _ h => h) (Or.inl ⟨by rfl, ?_⟩) (by assumption) ?_
        rotate_left
        · (intro w hSw; (try dsimp only at hSw); go_simp; try with_reducible rfl)
        try simp only [Act.put, List.getElem_toArray, List.getElem_cons_zero, List.getElem_cons_succ, List.setIfInBounds_toArray, List.set_cons_zero, List.set_cons_succ]
        refine wpAnyK_take (i := 2) (v := ?_) rfl (by kernel_rfl) (fun _ _ _ h => h) (Or.inl ⟨by rfl, ?_⟩) (by assumption) ?_
        rotate_left
        · (intro w hSw; (try dsimp only at hSw); go_simp; try with_reducible rfl)
        try simp only [Act.put, List.getElem_toArray, List.getElem_cons_zero, List.getElem_cons_succ, List.setIfInBounds_toArray, List.set_cons_zero, List.set_cons_succ]
        refine wpAnyK_take (i := 3) (v := ?_) rfl (by kernel_rfl) (fun _ _ _ h => h) (Or.inl ⟨by rfl, ?_⟩) (by assumption) ?_
        rotate_left
        · (intro w hSw; (try dsimp only at hSw); go_simp; try with_reducible rfl)
        try simp only [Act.put, List.getElem_toArray, List.getElem_cons_zero, List.getElem_cons_succ, List.setIfInBounds_toArray, List.set_cons_zero, List.set_cons_succ]
        refine wpAnyK_take (i := 4) (v := ?_) rfl (by kernel_rfl) (fun _ _ _ h => h) (Or.inl ⟨by rfl, ?_⟩) (by assumption) ?_
        rotate_left
        · (intro w hSw; (try dsimp only at hSw); go_simp; try with_reducible rfl)
        try simp only [Act.put, List.getElem_toArray, List.getElem_cons_zero, List.getElem_cons_succ, List.setIfInBounds_toArray, List.set_cons_zero, List.set_cons_succ]
        refine wpAnyK_take (i := 6) (v := ?_) rfl (by kernel_rfl) (fun _ _ _ h => h) (Or.inl ⟨by rfl, ?_⟩) (by assumption) ?_
        rotate_left
        · (intro w hSw; (try dsimp only at hSw); go_simp; try with_reducible rfl)
        try simp only [Act.put, List.getElem_toArray, List.getElem_cons_zero, List.getElem_cons_succ, List.setIfInBounds_toArray, List.set_cons_zero, List.set_cons_succ]
        refine wpAnyK_take (i := 7) (v := ?_) rfl (by kernel_rfl) (fun _ _ _ h => h) (Or.inl ⟨by rfl, ?_⟩) (by assumption) ?_
        rotate_left
        · (intro w hSw; (try dsimp only at hSw); go_simp; try with_reducible rfl)
        try simp only [Act.put, List.getElem_toArray, List.getElem_cons_zero, List.getElem_cons_succ, List.setIfInBounds_toArray, List.set_cons_zero, List.set_cons_succ]
        refine wpAnyK_take (i := 8) (v := ?_) rfl (by kernel_rfl) (fun _ _ _ h => h) (Or.inl ⟨by rfl, ?_⟩) (by assumption) ?_
        rotate_left
        · (intro w hSw; (try dsimp only at hSw); go_simp; try with_reducible rfl)
        try simp only [Act.put, List.getElem_toArray, List.getElem_cons_zero, List.getElem_cons_succ, List.setIfInBounds_toArray, List.set_cons_zero, List.set_cons_succ]
        refine wpAnyK_take (i := 9) (v := ?_) rfl (by kernel_rfl) (fun _ _ _ h => h) (Or.inl ⟨by rfl, ?_⟩) (by assumption) ?_
        rotate_left
        · (intro w hSw; (try dsimp only at hSw); go_simp; try with_reducible rfl)
        try simp only [Act.put, List.getElem_toArray, List.getElem_cons_zero, List.getElem_cons_succ, List.setIfInBounds_toArray, List.set_cons_zero, List.set_cons_succ]
        refine wpAnyK_take (i := 10) (v := ?_) rfl (by kernel_rfl) (fun _ _ _ h => h) (Or.inl ⟨by rfl, ?_⟩) (by assumption) ?_
        rotate_left
        · (intro w hSw; (try dsimp only at hSw); go_simp; try with_reducible rfl)
        try simp only [Act.put, List.getElem_toArray, List.getElem_cons_zero, List.getElem_cons_succ, List.setIfInBounds_toArray, List.set_cons_zero, List.set_cons_succ]
        refine wpAnyK_take (i := 11) (v := ?_) rfl (by kernel_rfl) (fun _ _ _ h => h) (Or.inl ⟨by rfl, ?_⟩) (by assumption) ?_
        rotate_left
        · (intro w hSw; (try dsimp only at hSw); go_simp; try with_reducible rfl)
        try simp only [Act.put, List.getElem_toArray, List.getElem_cons_zero, List.getElem_cons_succ, List.setIfInBounds_toArray, List.set_cons_zero, List.set_cons_succ]
        refine wpAnyK_take (i := 12) (v := ?_) rfl (by kernel_rfl) (fun _ _ _ h => h) (Or.inl ⟨by rfl, ?_⟩) (by assumption) ?_
        rotate_left
        · (intro w hSw; (try dsimp only at hSw); go_simp; try with_reducible rfl)
        try simp only [Act.put, List.getElem_toArray, List.getElem_cons_zero, List.getElem_cons_succ, List.setIfInBounds_toArray, List.set_cons_zero, List.set_cons_succ]
        refine wpAnyK_step (i := 5) rfl (by kernel_rfl) (fun K hK => ?_)
        go_simp
        with_reducible refine (HBY.out ud HUD.out).mono ?_
        rintro e u5 ⟨rfl, rfl⟩

        refine hK.out _ _ hHeld0 (fun hHeld1 => ?_)
        clear hK K 
        try simp only [Act.put, List.getElem_toArray, List.getElem_cons_zero, List.getElem_cons_succ, List.setIfInBounds_toArray, List.set_cons_zero, List.set_cons_succ]
        refine wpAnyK_take (i := 13) (v := ?_) rfl (by kernel_rfl) (fun _ _ _ h => h) (Or.inl ⟨by rfl, ?_⟩) (by assumption) ?_
        rotate_left
        · (intro w hSw; (try dsimp only at hSw); go_simp; try with_reducible rfl)
        try simp only [Act.put, List.getElem_toArray, List.getElem_cons_zero, List.getElem_cons_succ, List.setIfInBounds_toArray, List.set_cons_zero, List.set_cons_succ]
        refine wpAnyK_take (i := 14) (v := ?_) rfl (by kernel_rfl) (fun _ _ _ h => h) (Or.inl ⟨by rfl, ?_⟩) (by assumption) ?_
        rotate_left
        · (intro w hSw; (try dsimp only at hSw); go_simp; try with_reducible rfl)
        try simp only [Act.put, List.getElem_toArray, List.getElem_cons_zero, List.getElem_cons_succ, List.setIfInBounds_toArray, List.set_cons_zero, List.set_cons_succ]
        refine wpAnyK_done (by kernel_rfl) ?_
        simp only [List.drop_succ_cons, List.drop_zero]
        clear hHeld1
        go_wp2_with fail
        go_roundw
        case rel => exact ⟨t + 1, by go_num, by omega, HUD⟩
        case measure => first | (simp [intOf]; done) | (simp [intOf]; omega)
      · have HM := Lib.hid (show Y - X = C from by have := HXY.out; omega)
        have hbb : (Y - X != C) = false := by simp [HM.out]
        go_upto_region 12 with fail
        refine wp_region_keeps (fun u => u.cell? ⟨b10, 1, none⟩ = some (.slice (some ⟨S2, o2, none⟩) 1 1) ∧ u.cell? ⟨S2, o2, none⟩ = some (.slice (some ⟨Bs, os, none⟩) 121 ks) ∧ u.cell? ⟨Bs, os + t, none⟩ = some (.int .i64 X)) 15 1 (by kernel_rfl) (by kernel_rfl) HS12.out (fun hHeld0 => ?_)
        obtain ⟨ud, hud⟩ : ∃ V, wq.drew = V := ⟨_, rfl⟩
        have HUD := Lib.hid (show Below V9.heap.size V9 ud from by rw [← hud]; exact HWQ.out.trans (((Below.refl _ _).drew : Below wq.heap.size wq wq.drew).mono HWQ.out.size))
        rw [hud] at hHeld0 ⊢
        clear hud HS12
        refine wpAnyK_take (i := 0) (v := ?_) rfl (by kernel_rfl) (fun _ _ _ h => h) (Or.inl ⟨by rfl, ?_⟩) (by assumption) ?_
        rotate_left
        · (intro w hSw; (try dsimp only at hSw); go_simp; try with_reducible rfl)
        try simp only [Act.put, List.getElem_toArray, List.getElem_cons_zero, List.getElem_cons_succ, List.setIfInBounds_toArray, List.set_cons_zero, List.set_cons_succ]
        refine wpAnyK_take (i := 1) (v := ?_) rfl (by kernel_rfl) (fun _ _ _ h => h) (Or.inl ⟨by rfl, ?_⟩) (by assumption) ?_
        rotate_left
        · (intro w hSw; (try dsimp only at hSw); go_simp; try with_reducible rfl)
        try simp only [Act.put, List.getElem_toArray, List.getElem_cons_zero, List.getElem_cons_succ, List.setIfInBounds_toArray, List.set_cons_zero, List.set_cons_succ]
        refine wpAnyK_take (i := 2) (v := ?_) rfl (by kernel_rfl) (fun _ _ _ h => h) (Or.inl ⟨by rfl, ?_⟩) (by assumption) ?_
        rotate_left
        · (intro w hSw; (try dsimp only at hSw); go_simp; try with_reducible rfl)
        try simp only [Act.put, List.getElem_toArray, List.getElem_cons_zero, List.getElem_cons_succ, List.setIfInBounds_toArray, List.set_cons_zero, List.set_cons_succ]
        refine wpAnyK_take (i := 3) (v := ?_) rfl (by kernel_rfl) (fun _ _ _ h => h) (Or.inl ⟨by rfl, ?_⟩) (by assumption) ?_
        rotate_left
        · (intro w hSw; (try dsimp only at hSw); go_simp; try with_reducible rfl)
        try simp only [Act.put, List.getElem_toArray, List.getElem_cons_zero, List.getElem_cons_succ, List.setIfInBounds_toArray, List.set_cons_zero, List.set_cons_succ]
        refine wpAnyK_take (i := 4) (v := ?_) rfl (by kernel_rfl) (fun _ _ _ h => h) (Or.inl ⟨by rfl, ?_⟩) (by assumption) ?_
        rotate_left
        · (intro w hSw; (try dsimp only at hSw); go_simp; try with_reducible rfl)
        try simp only [Act.put, List.getElem_toArray, List.getElem_cons_zero, List.getElem_cons_succ, List.setIfInBounds_toArray, List.set_cons_zero, List.set_cons_succ]
        refine wpAnyK_take (i := 6) (v := ?_) rfl (by kernel_rfl) (fun _ _ _ h => h) (Or.inl ⟨by rfl, ?_⟩) (by assumption) ?_
        rotate_left
        · (intro w hSw; (try dsimp only at hSw); go_simp; try with_reducible rfl)
        try simp only [Act.put, List.getElem_toArray, List.getElem_cons_zero, List.getElem_cons_succ, List.setIfInBounds_toArray, List.set_cons_zero, List.set_cons_succ]
        refine wpAnyK_take (i := 7) (v := ?_) rfl (by kernel_rfl) (fun _ _ _ h => h) (Or.inl ⟨by rfl, ?_⟩) (by assumption) ?_
        rotate_left
        · (intro w hSw; (try dsimp only at hSw); go_simp; try with_reducible rfl)
        try simp only [Act.put, List.getElem_toArray, List.getElem_cons_zero, List.getElem_cons_succ, List.setIfInBounds_toArray, List.set_cons_zero, List.set_cons_succ]
        refine wpAnyK_take (i := 8) (v := ?_) rfl (by kernel_rfl) (fun _ _ _ h => h) (Or.inl ⟨by rfl, ?_⟩) (by assumption) ?_
        rotate_left
        · (intro w hSw; (try dsimp only at hSw); go_simp; try with_reducible rfl)
        try simp only [Act.put, List.getElem_toArray, List.getElem_cons_zero, List.getElem_cons_succ, List.setIfInBounds_toArray, List.set_cons_zero, List.set_cons_succ]
        refine wpAnyK_take (i := 9) (v := ?_) rfl (by kernel_rfl) (fun _ _ _ h => h) (Or.inl ⟨by rfl, ?_⟩) (by assumption) ?_
        rotate_left
        · (intro w hSw; (try dsimp only at hSw); go_simp; try with_reducible rfl)
        try simp only [Act.put, List.getElem_toArray, List.getElem_cons_zero, List.getElem_cons_succ, List.setIfInBounds_toArray, List.set_cons_zero, List.set_cons_succ]
        refine wpAnyK_take (i := 10) (v := ?_) rfl (by kernel_rfl) (fun _ _ _ h => h) (Or.inl ⟨by rfl, ?_⟩) (by assumption) ?_
        rotate_left
        · (intro w hSw; (try dsimp only at hSw); go_simp; try with_reducible rfl)
        try simp only [Act.put, List.getElem_toArray, List.getElem_cons_zero, List.getElem_cons_succ, List.setIfInBounds_toArray, List.set_cons_zero, List.set_cons_succ]
        refine wpAnyK_take (i := 11) (v := ?_) rfl (by kernel_rfl) (fun _ _ _ h => h) (Or.inl ⟨by rfl, ?_⟩) (by assumption) ?_
        rotate_left
        · (intro w hSw; (try dsimp only at hSw); go_simp; try with_reducible rfl)
        try simp only [Act.put, List.getElem_toArray, List.getElem_cons_zero, List.getElem_cons_succ, List.setIfInBounds_toArray, List.set_cons_zero, List.set_cons_succ]
        refine wpAnyK_take (i := 12) (v := ?_) rfl (by kernel_rfl) (fun _ _ _ h => h) (Or.inl ⟨by rfl, ?_⟩) (by assumption) ?_
        rotate_left
        · (intro w hSw; (try dsimp only at hSw); go_simp; try with_reducible rfl)
        try simp only [Act.put, List.getElem_toArray, List.getElem_cons_zero, List.getElem_cons_succ, List.setIfInBounds_toArray, List.set_cons_zero, List.set_cons_succ]
        refine wpAnyK_step (i := 5) rfl (by kernel_rfl) (fun K hK => ?_)
        go_simp
        with_reducible refine (HBY.out ud HUD.out).mono ?_
        rintro e u5 ⟨rfl, rfl⟩

        refine hK.out _ _ hHeld0 (fun hHeld1 => ?_)
        clear hK K 
        try simp only [Act.put, List.getElem_toArray, List.getElem_cons_zero, List.getElem_cons_succ, List.setIfInBounds_toArray, List.set_cons_zero, List.set_cons_succ]
        refine wpAnyK_take (i := 13) (v := ?_) rfl (by kernel_rfl) (fun _ _ _ h => h) (Or.inl ⟨by rfl, ?_⟩) (by assumption) ?_
        rotate_left
        · (intro w hSw; (try dsimp only at hSw); go_simp; try with_reducible rfl)
        try simp only [Act.put, List.getElem_toArray, List.getElem_cons_zero, List.getElem_cons_succ, List.setIfInBounds_toArray, List.set_cons_zero, List.set_cons_succ]
        refine wpAnyK_take (i := 14) (v := ?_) rfl (by kernel_rfl) (fun _ _ _ h => h) (Or.inl ⟨by rfl, ?_⟩) (by assumption) ?_
        rotate_left
        · (intro w hSw; (try dsimp only at hSw); go_simp; try with_reducible rfl)
        try simp only [Act.put, List.getElem_toArray, List.getElem_cons_zero, List.getElem_cons_succ, List.setIfInBounds_toArray, List.set_cons_zero, List.set_cons_succ]
        refine wpAnyK_done (by kernel_rfl) ?_
        simp only [List.drop_succ_cons, List.drop_zero]
        clear hHeld1
        go_wp2_with fail
        go_roundw
        case rel => exact ⟨t + 1, by go_num, by omega, HUD⟩
        case measure => first | (simp [intOf]; done) | (simp [intOf]; omega)
    · obtain rfl : t = 120 := by omega
      have hlI : ¬ ((120 : Nat) : Int) < 120 := by omega
      obtain ⟨q0, _⟩ := (XR.out.under HT.out).cells
      go_wp2_with fail
      go_loopw [87, 13] (fun s87 s13 wx => ∃ i : Nat, s87 = .int .i64 i ∧ s13 = .int .i64 (lastF C lp i) ∧ i ≤ n1 ∧ Hid (Below V9.heap.size V9 wx)) (fun s87 _ _ => n1 - (intOf s87).toNat)
      case atStart => exact ⟨0, by go_num, rfl, Nat.zero_le _, HT⟩
      case round =>
        obtain ⟨i, rfl, rfl, hi, HI⟩ := hrel
        obtain ⟨wi, rfl⟩ : ∃ u : World, u = wr := ⟨_, rfl⟩
        clear HT q0
        by_cases hlt : i < n1
        · have hlI : (i : Int) < (n1 : Int) := by omega
          obtain ⟨y, z, hy, hc, _, hz, hzb⟩ := row_get16 (DT.out.under HI.out) hlt
          rw [valsF_at _ hlt] at hz
          have HZE := Lib.hid hz
          obtain ⟨B, off, q, ha, hcs, hq, hbd⟩ := (PT.out.under HI.out).at hlt
          obtain ⟨c0, c1', c2⟩ := hcs i q hq
          have hqd : lp.getD i default = q := by rw [List.getD_eq_getElem?_getD, hq]; rfl
          have HQD := Lib.hid hqd
          have htm := HD.out.ok q (List.mem_of_getElem? hq)
          have hlast := last_le HT0.out (show 0 ≤ C by omega) i
          have HLE := Lib.hid hlast.2.1
          obtain ⟨last, hla⟩ : ∃ x, lastF C lp i = x := ⟨_, rfl⟩
          rw [hla] at HLE ⊢
          clear hz hcs hq hbd hqd hla hlast c0 c2
          have hqt : q.t ≤ 1000 := by omega
          clear htm
          subst hy
          subst ha
          by_cases hd0 : z < 0
          · have HDD := Lib.hid (show ddF C lp i = 1000 from by unfold ddF; rw [HZE.out, if_pos hd0])
            have hl2 : ¬ (1000 : Int) < last := by have h := HLE.out; rw [HDD.out] at h; omega
            have hq2 : ¬ (1000 : Int) < q.t := by omega
            go_wp2_with fail
            go_roundw
            case rel => exact ⟨i + 1, by go_num, by show _ = Value.int .i64 (ddF C lp i); rw [HDD.out], by omega, HI⟩
            case measure => first | (simp [intOf]; done) | (simp [intOf]; omega)
          · have HDD := Lib.hid (show ddF C lp i = z from by unfold ddF; rw [HZE.out, if_neg hd0])
            have hl2 : ¬ z < last := by have h := HLE.out; rw [HDD.out] at h; omega
            have hq2 : ¬ z < q.t := by
              have h := done_after HT0.out (show 0 ≤ C by omega) (T := 120) (i := i) (by rw [HLEN.out]; exact hlt) (by rw [HZE.out]; omega)
              rw [HZE.out, HQD.out] at h; omega
            go_wp2_with fail
            go_roundw
            case rel => exact ⟨i + 1, by go_num, by show _ = Value.int .i64 (ddF C lp i); rw [HDD.out], by omega, HI⟩
            case measure => first | (simp [intOf]; done) | (simp [intOf]; omega)
        · obtain rfl : i = n1 := by omega
          have hlI : ¬ (i : Int) < (i : Int) := by omega
          have KQ := Lib.hid (show ∀ u, Below V9.heap.size V9 u → (u.cell? ⟨b10, 0, none⟩ = some (.slice d2 i e2) ∧ u.cell? ⟨b10, 1, none⟩ = some (.slice (some ⟨S2, o2, none⟩) 1 1) ∧ u.cell? ⟨b8, 0, none⟩ = some (.slice ac 1 cc) ∧ u.cell? ⟨b8, 1, none⟩ = some (.int .i64 1) ∧ u.cell? ⟨b8, 2, none⟩ = some (.int .i64 C) ∧ Hid (Below V9.heap.size V9 u)) from fun u hu =>
            ⟨(XT.out.under hu).cells.1, (XT.out.under hu).cells.2, (KT.out.below hu).c0, (KT.out.below hu).c1, (KT.out.below hu).c2, Lib.hid hu⟩)
          have HK0 := Lib.hid (KQ.out wi.drew (HI.out.trans (((Below.refl _ _).drew : Below wi.heap.size wi wi.drew).mono HI.out.size)))
          have HONE := Lib.hid (show ∀ u, Below V9.heap.size V9 u → Calls Try.prog 91 #[.slice a1 i c1] u (fun e w' => ∃ aa nn ca, e = .returned (.slice aa nn ca) ∧ Below u.heap.size u w' ∧ PkR w' aa nn ca (lp.map oneP)) from fun u hu =>
            (one16 a1 i c1 lp u (PT.out.under hu) (by omega)).mono (by
              rintro e w' ⟨aa, nn, ca, rfl, h1, h2, _⟩
              exact ⟨aa, nn, ca, rfl, h1, h2⟩))
          have HSV := Lib.hid (show ∀ (aa : Option Addr) (nn ca : Nat) (u : World), Below V9.heap.size V9 u → PkR u aa nn ca (lp.map oneP) → Calls Try.prog 90 #[.slice aa nn ca, .agg #[.slice d2 i e2, .slice (some ⟨S2, o2, none⟩) 1 1], .int .i64 0, .agg #[.slice ac 1 cc, .int .i64 1, .int .i64 C]] u (Says (.bool true) u) from fun aa nn ca u hu hp =>
            serves16 aa nn ca (lp.map oneP) (one_v HVC.out) _ i 120 (by omega) (by omega) _ _ ac cc C ⟨hC1, by omega⟩ (fun t _ => by
              obtain ⟨s, h1, h2⟩ := line_serves (C := C) HT0.out t
              exact ⟨s, h1, by rw [arr_one]; show _ ≤ lineS C lp t; omega⟩) u hp (RT.out.under hu) (ZT.out.under hu))
          have HBS := Lib.hid (show ∀ (aa : Option Addr) (nn ca : Nat) (u : World), Below V9.heap.size V9 u → PkR u aa nn ca (lp.map oneP) → Calls Try.prog 92 #[.slice aa nn ca, .agg #[.slice d2 i e2, .slice (some ⟨S2, o2, none⟩) 1 1], .int .i64 0, .agg #[.slice ac 1 cc, .int .i64 1, .int .i64 C]] u (Says (.bool true) u) from fun aa nn ca u hu hp =>
            busy16 aa nn ca (lp.map oneP) (one_v HVC.out) _ i 120 (by omega) (by omega) _ _ ac cc C ⟨hC1, by omega⟩ (fun s t h1 h2 h3 => by
              have h := line_busy (C := C) (p := lp) (s := s) t (by omega) (fun u hu1 hu2 => by have := h3 u hu1 hu2; rwa [arr_one] at this)
              show C * ((t : Int) - (s : Int)) ≤ lineS C lp t - lineS C lp s
              omega) u hp (RT.out.under hu) (ZT.out.under hu))
          go_upto_region 24 with fail
          go_region_held3 (fun u => u.cell? ⟨b10, 0, none⟩ = some (.slice d2 i e2) ∧ u.cell? ⟨b10, 1, none⟩ = some (.slice (some ⟨S2, o2, none⟩) 1 1) ∧ u.cell? ⟨b8, 0, none⟩ = some (.slice ac 1 cc) ∧ u.cell? ⟨b8, 1, none⟩ = some (.int .i64 1) ∧ u.cell? ⟨b8, 2, none⟩ = some (.int .i64 C) ∧ Hid (Below V9.heap.size V9 u))
            (first | with_reducible exact HK0.out | with_reducible exact KQ.out _ (cm16 (six_of (by assumption)) hb35) | with_reducible exact KQ.out _ (cm16 (six_of (by assumption)) hb34) | with_reducible exact KQ.out _ (cm16 (six_of (by assumption)) hb33) | with_reducible exact KQ.out _ (cm16 (six_of (by assumption)) hb32) | with_reducible exact KQ.out _ (cm16 (six_of (by assumption)) hb31) | with_reducible exact KQ.out _ (six_of (by assumption)).drew)
            (first
              | (go_at_call 90; ((with_reducible refine (HSV.out _ _ _ _ (six_of (by assumption)) (by assumption)).mono ?_); rintro e w32 ⟨rfl, hb32⟩))
              | (go_at_call 92; ((with_reducible refine (HBS.out _ _ _ _ (six_of (by assumption)) (by assumption)).mono ?_); rintro e w34 ⟨rfl, hb34⟩))
              | (go_at_call 91; ((with_reducible refine (HONE.out _ (six_of (by assumption))).mono ?_); rintro e w31 ⟨aa, nn, ca, rfl, hb31, hp31⟩))
              | (go_at_call 79; ((with_reducible refine (awake16 _).mono ?_); rintro e w35 ⟨rfl, hb35⟩; have HEND := Lib.hid (cm16 (six_of (by assumption)) hb35))))
          go_wp2_with fail
          go_ret
          exact ⟨rfl, HFIN.out _ (B9.out.trans (HEND.out.mono B9.out.size))⟩
end Go.Proofs.Ytkienpbmoilheaa
