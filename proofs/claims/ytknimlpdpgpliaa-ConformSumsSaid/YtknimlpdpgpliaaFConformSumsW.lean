/- The walk of ConformSums. By the verifier's side. -/
import Derived.Test.YtknimlpdpgpliaaFCfZ
import Derived.Test.YtknimlpdpgpliaaFCfW
import Derived.Test.YtknimlpdpgpliaaFCfLCfL1CfL2CfL3
import Derived.Test.YtknimlpdpgpliaaFR5DCfI
namespace Go.Proofs.Ytknimlpdpgpliaa
open Go.RowKit
set_option linter.unusedSimpArgs false
set_option linter.unusedVariables false

theorem cs_call {U u v : World} (h : Below U.heap.size U u) (hb : Below u.heap.size u v) : Below U.heap.size U v := h.trans (hb.mono h.size)
theorem eC_of {zs : List Int} {p : Nat} {inc : Int} {F : Nat → Int} (h : ∀ t, atC zs p inc t = F t) (hF : ∀ t, F t ≤ 1073741824) (t : Nat) : eC zs p inc t = some (F t) := by
  unfold eC
  rw [h t, if_neg]
  rintro ⟨_, e⟩
  have h2 := hF t
  rw [e] at h2
  unfold infV at h2
  omega
theorem ecan_of {F : Nat → Int} (h : CanBe F) (hF : ∀ t, F t ≤ 1073741824) : ECan (fun t => some (F t)) := by
  obtain ⟨zs, p, inc, g, e⟩ := h
  exact ⟨zs, p, inc, g, eC_of e hF⟩
theorem at_eform {zs : List Int} {p : Nat} {inc : Int} {F : Nat → Int} (h : EForm zs p inc (fun t => some (F t))) : atC zs p inc = F := funext fun t => (eC_bd h.1 (h.2.1 t)).2.2
theorem rowZ_ltS {w : World} {a : Option Addr} {n cap : Nat} {zs : List Int} (h : RowZ w a n cap zs) (hn : 1 ≤ n) : ∀ x, a = some x → x.block < w.heap.size := fun x hx => by
  obtain ⟨y, hy, hc⟩ := h.cell 0 (by omega)
  rw [hx] at hy; cases hy
  have := lt_of_cell hc
  have e : (x.add 0).block = x.block := by unfold Addr.add; split <;> rfl
  rwa [e] at this
/-- While it is summed: the sum of the first flows in its box. -/
structure SmS (B : World) (G : Nat) (l : List Pk) (k : Nat) (aS : Option Addr) (nS cS : Nat) (zS : List Int) (pS : Nat) (iS : Int) (wx : World) : Prop where
  box : Cur3 wx G (.slice aS nS cS) (.int .i64 pS) (.int .i64 iS)
  row : RowZ wx aS nS cS zS
  form : EForm zS pS iS (fun t => some (smF l k t))
  far : ∀ x, aS = some x → 1 ≤ nS → x.block ≠ G
  below : Below B.heap.size B wx
theorem SmS.call {B : World} {G : Nat} {l : List Pk} {k : Nat} {aS : Option Addr} {nS cS : Nat} {zS : List Int} {pS : Nat} {iS : Int} {u v : World} (h : SmS B G l k aS nS cS zS pS iS u) (hb : Below u.heap.size u v) : SmS B G l k aS nS cS zS pS iS v :=
  ⟨h.box.below hb, h.row.under hb, h.form, h.far, cs_call h.below hb⟩
theorem SmS.next {B : World} {G : Nat} {l : List Pk} {k : Nat} {aS : Option Addr} {nS cS : Nat} {zS : List Int} {pS : Nat} {iS : Int} {u : World} (h : SmS B G l k aS nS cS zS pS iS u) (hG : B.heap.size ≤ G) {a9 : Option Addr} {n9 c9 : Nat} {z9 : List Int} {p9 : Nat} {i9 : Int} (hr : RowZ u a9 n9 c9 z9) (hf : EForm z9 p9 i9 (fun t => some (smF l (k + 1) t))) (hx : ∀ x, a9 = some x → x.block ≠ G) :
    SmS B G l (k + 1) a9 n9 c9 z9 p9 i9 (((u.setCell ⟨G, 0, none⟩ (.slice a9 n9 c9)).setCell ⟨G, 1, none⟩ (.int .i64 p9)).setCell ⟨G, 2, none⟩ (.int .i64 i9)) :=
  ⟨h.box.set _ _ _, ((hr.store (fun x e _ => hx x e) _ _).store (fun x e _ => hx x e) _ _).store (fun x e _ => hx x e) _ _, hf, fun x e _ => hx x e, below_set3 h.below hG _ _ _⟩

set_option maxRecDepth 100000 in
set_option maxHeartbeats 6400000 in
theorem conformSums_walk (W : World) (a : Option Addr) (n cap : Nat) (hrow : RowAt W a n cap) :
    Calls Try.prog 13 #[.slice a n cap] W fun e w' => e = .returned (.bool true) ∧ Below W.heap.size W w' := by
  have HR := Lib.hid hrow
  clear hrow
  go_enter Try.func13, Try.ntmps13
  go_wp2_with fail
  refine (new_any a n cap _ HR.out).mono ?_
  rintro e ww1 ⟨rfl, hb1, hz1', ra, rn, rc, hs1⟩
  have HB1 := Lib.hid hb1
  have HS1 := Lib.hid hs1
  have hbl : W.heap.size < ww1.heap.size := by omega
  clear hb1 hz1' hs1
  go_wp2_with fail
  refine (traffic14 12 (by omega) 3 9 (by decide) (by decide) _ ra rn rc _ HS1.out).mono ?_
  rintro e ww2 ⟨lp, a1, n1, c1, rfl, hdr, hs2, he2, hr2, hx2⟩
  have HD := Lib.hid hdr
  have HH2 := Lib.hid ((Hld13.start HS1.out).call hs2 he2)
  have R2 := Lib.hid hr2
  have HVC := Lib.hid (HD.out.vcode (by omega) (by omega) (by omega))
  have HFIN := Lib.hid (show ∀ wx, Below ww2.heap.size ww2 wx → Below W.heap.size W wx from fun wx hx => HB1.out.trans ((hldZ_below HH2.out hx).ap.below (Nat.le_refl _) HB1.out.size))
  clear hdr hs2 he2 hr2 hx2 HH2
  have HT := Lib.hid (show ∀ q ∈ lp, 0 ≤ q.t ∧ q.t ≤ ((84 : Nat) : Int) from fun q hq => by have := HD.out.ok q hq; omega)
  go_wp2_with fail
  refine (rflat014 ww2).mono ?_
  rintro e ww3 ⟨a3, n3, c3, z3, p3, i3, rfl, hb3, hr3, hf3, hx3⟩
  go_upto_block 0 with fail
  obtain ⟨U3, hU3⟩ : ∃ U, ww3.alloc (.cells #[.slice a3 n3 c3, .int .i64 p3, .int .i64 i3] 26) = U := ⟨_, rfl⟩
  have hbu : Below ww3.heap.size ww3 U3 := by rw [← hU3]; exact (Below.refl _ _).alloc (Nat.le_refl _) _
  have HGB := Lib.hid (show ww2.heap.size ≤ ww3.heap.size from hb3.size)
  have HM3 := Lib.hid (show SmS ww2 ww3.heap.size lp 0 a3 n3 c3 z3 p3 i3 U3 from
    ⟨by rw [← hU3]; exact Cur3.new _ _ _ _ _, hr3.under hbu, hf3, fun x e h1 => by have := rowZ_ltS hr3 h1 x e; omega, cs_call hb3 hbu⟩)
  rw [hU3]
  clear hU3 hbu hb3 hr3 hf3 hx3
  obtain ⟨G, hG⟩ : ∃ G, ww3.heap.size = G := ⟨_, rfl⟩
  rw [hG] at HM3 HGB ⊢
  clear hG
  go_wp2_with fail
  go_loopw [7] (fun s7 wx => ∃ k : Nat, s7 = .int .i64 k ∧ k ≤ 3 ∧ Hid (∃ aS nS cS zS pS iS, SmS ww2 G lp k aS nS cS zS pS iS wx)) (fun s7 _ => 3 - (intOf s7).toNat)
  case atStart => exact ⟨0, by go_num, by omega, Lib.hid ⟨_, _, _, _, _, _, HM3.out⟩⟩
  case round =>
    obtain ⟨k, rfl, hk, hM⟩ := hrel
    obtain ⟨wk, rfl⟩ : ∃ u : World, u = wr := ⟨_, rfl⟩
    obtain ⟨aS, nS, cS, zS, pS, iS, hm⟩ := hM.out
    have HM := Lib.hid hm
    clear hm hM HM3
    obtain ⟨x0, x1, x2, _, _, _⟩ := HM.out.box
    by_cases hlt : k < 3
    · have hlI : (k : Int) < 3 := by omega
      have hwk : IntKind.i64.wrap ((k : Int) + 1) = (k : Int) + 1 := IntWalk.i64_in _ ⟨by omega, by omega⟩
      obtain ⟨own, hown⟩ : ∃ own, sel (k : Int) lp = own := ⟨_, rfl⟩
      have HOWN := Lib.hid hown
      have HOK := Lib.hid (show (∀ x ∈ own, okP x = true) ∧ own.length ≤ 60 ∧ Asc own ∧ (lstS own ≤ 85) from by
        obtain ⟨h1, h2, h3⟩ := vcode_ok HVC.out
        rw [← hown]
        exact ⟨fun x hx => h2 x (List.mem_filter.1 hx).1, Nat.le_trans (sel_le _ lp) h1, h3.filter _, lstS_small (m := 84) (fun q hq => HT.out q (List.mem_filter.1 hq).1)⟩)
      have HCB := Lib.hid (show CanBe (lstF own) from lst_can HOK.out.1 HOK.out.2.1 HOK.out.2.2.1 (by have := HOK.out.2.2.2; omega))
      clear hown
      go_wp2_with fail
      refine (least14 a1 n1 c1 lp k 0 (by unfold fcode; rw [HVC.out, if_pos rfl, if_neg (by omega)]) _ (R2.out.under HM.out.below)).mono ?_
      rintro e ww6 (⟨_, hb6, ⟨a6, n6, c6, z6, p6, i6, rfl, hr6, hf6, hx6⟩ | ⟨_, hno⟩⟩ | ⟨h, _⟩)
      rotate_left
      · exact absurd (by rw [HOWN.out]; exact HCB.out) hno
      · exact absurd rfl h
      rw [HOWN.out] at hf6
      go_upto_region 8 with fail
      obtain ⟨U6, hU6⟩ : ∃ U, ww6.alloc (.cells #[.slice a6 n6 c6, .int .i64 p6, .int .i64 i6] 26) = U := ⟨_, rfl⟩
      have hbu : Below ww6.heap.size ww6 U6 := by rw [← hU6]; exact (Below.refl _ _).alloc (Nat.le_refl _) _
      have HM6 := Lib.hid ((HM.out.call hb6).call hbu)
      have R6 := Lib.hid (hr6.under hbu)
      have F6 := Lib.hid hf6
      have C6 := Lib.hid (show Cur3 U6 ww6.heap.size (.slice a6 n6 c6) (.int .i64 p6) (.int .i64 i6) from by rw [← hU6]; exact Cur3.new _ _ _ _ _)
      rw [hU6]
      clear hU6 hbu hb6 hr6 hf6 hx6 HM x0 x1 x2
      obtain ⟨H, hH⟩ : ∃ H, ww6.heap.size = H := ⟨_, rfl⟩
      rw [hH] at C6 ⊢
      clear hH
      obtain ⟨x0, x1, x2, _, _, _⟩ := HM6.out.box
      obtain ⟨g0, g1, g2, _, _, _⟩ := C6.out
      obtain ⟨hm1, hm2, hm3⟩ := smF_facts (vcode_ok HVC.out).2.1 (vcode_ok HVC.out).1 (vcode_ok HVC.out).2.2 HT.out k
      obtain ⟨hn1, hn2, hn3⟩ := smF_facts (vcode_ok HVC.out).2.1 (vcode_ok HVC.out).1 (vcode_ok HVC.out).2.2 HT.out (k + 1)
      have HE9 := Lib.hid (show ECan (fun t => some (smF lp (k + 1) t)) from ecan_of (can_of (s := 84 + 1) (by omega) (by omega) hn1 (fun t => by have := hn2 t; omega) hn3) (fun t => by have := hn2 t; omega))
      have hp1 : pS = 1 := by
        have h1 := form_per14 HM6.out.form (fun _ => rfl) (s := 84 + 1) (P := 1) (c := 0) (fun t ht => by rw [hm3 (t + 1) (by omega), hm3 t ht]; omega) (Nat.le_refl _)
        have h2 := HM6.out.form.1.p1
        omega
      have hE6 : EForm z6 p6 i6 (fun t => some (lstF own t)) := by
        refine ⟨F6.out.1, eC_of F6.out.2.1 (fun t => by have := lst_bd HOK.out.1 HOK.out.2.1 t; omega), ?_⟩
        rw [show atC z6 p6 i6 = lstF own from funext F6.out.2.1]
        exact F6.out.2.2
      have hp2 : p6 = 1 := by
        obtain ⟨s, hs⟩ : ∃ s : Nat, (s : Int) = max (lstS own : Int) 1 := ⟨max (lstS own) 1, by omega⟩
        have h1 := form_per14 hE6 (fun _ => rfl) (P := 1) (lst_per HOK.out.1 HOK.out.2.2.1 hs) (Nat.le_refl _)
        have h2 := F6.out.1.p1
        omega
      subst hp1 hp2
      have HES := Lib.hid (show eSum zS 1 iS z6 1 i6 = (fun t => some (smF lp (k + 1) t)) from funext fun t => by
        unfold eSum
        rw [HM6.out.form.2.1 t, hE6.2.1 t, ← HOWN.out]
        rfl)
      have HLC := Lib.hid (lcm_one HM6.out.form.1 F6.out.1)
      clear hm1 hm2 hm3 hn1 hn2 hn3 hE6
      go_wp2_with fail
      refine (rsum_ok aS nS cS zS 1 iS HM6.out.form.1 a6 n6 c6 z6 1 i6 F6.out.1 1 HLC.out (by omega) _ HM6.out.row R6.out).mono ?_
      intro e ww7 hg
      rw [HES.out] at hg
      obtain ⟨a9, n9, c9, z9, p9, i9, rfl, hb7, hr7, hf7, hx7⟩ := GivesE.ok HE9.out hg
      clear hg
      go_upto_region 11 with fail
      obtain ⟨U7, hU7⟩ : ∃ U, ww7.alloc (.cells #[.slice a9 n9 c9, .int .i64 p9, .int .i64 i9] 26) = U := ⟨_, rfl⟩
      have hbu : Below ww7.heap.size ww7 U7 := by rw [← hU7]; exact (Below.refl _ _).alloc (Nat.le_refl _) _
      have HM7 := Lib.hid ((HM6.out.call hb7).call hbu)
      have R7 := Lib.hid (hr7.under hbu)
      have F7 := Lib.hid hf7
      have X7 := Lib.hid (show ∀ x, a9 = some x → x.block ≠ G from fun x e => by have := hx7 x e; have := HM6.out.box.lt; omega)
      have C7 := Lib.hid (show Cur3 U7 ww7.heap.size (.slice a9 n9 c9) (.int .i64 p9) (.int .i64 i9) from by rw [← hU7]; exact Cur3.new _ _ _ _ _)
      rw [hU7]
      clear hU7 hbu hb7 hr7 hf7 hx7 x0 x1 x2 g0 g1 g2 HM6
      obtain ⟨J, hJ⟩ : ∃ J, ww7.heap.size = J := ⟨_, rfl⟩
      rw [hJ] at C7 ⊢
      clear hJ
      obtain ⟨x0, x1, x2, y0, y1, y2⟩ := HM7.out.box
      obtain ⟨g0, g1, g2, _, _, _⟩ := C7.out
      have HN := Lib.hid (HM7.out.next HGB.out R7.out F7.out X7.out)
      go_wp2_with fail
      go_roundw
      case rel => exact ⟨k + 1, by go_num, by omega, Lib.hid ⟨_, _, _, _, _, _, HN.out⟩⟩
      case measure => first | (simp [intOf]; done) | (simp [intOf]; omega)
    · obtain rfl : k = 3 := by omega
      have HI := Lib.hid (show In64 ((pS : Nat) : Int) ∧ In64 iS ∧ okC zS pS iS = true from by
        have h1 := HM.out.form.1.p1
        have h2 := HM.out.form.1.p2
        have h3 := HM.out.form.1.i0
        have h4 := HM.out.form.1.i1
        exact ⟨⟨by omega, by omega⟩, ⟨by omega, by omega⟩, (okC_iff zS pS iS).2 HM.out.form.1⟩)
      have hk := keeps14 a1 n1 c1 lp (-1) aS nS cS zS pS iS HI.out.1 HI.out.2.1 true (by
        rw [keepsA_ok HVC.out (by decide) HI.out.2.2, at_eform HM.out.form]
        exact sum_kept (vcode_ok HVC.out).2.1 (vcode_ok HVC.out).1 (vcode_ok HVC.out).2.2 (fun q hq => by have := HD.out.ok q hq; omega)) wk (R2.out.under HM.out.below) HM.out.row
      have HK := Lib.hid hk
      clear hk hlt
      go_wp2_with fail
      refine HK.out.mono ?_
      rintro e ww8 ⟨rfl, hb8⟩
      have B8 := Lib.hid (cs_call HM.out.below hb8)
      clear hb8 x0 x1 x2
      go_wp2_with fail
      refine (awake14 _).mono ?_
      rintro e ww9 ⟨rfl, hb9⟩
      have B9 := Lib.hid (cs_call B8.out hb9)
      clear hb9
      go_wp2_with fail
      go_ret
      exact ⟨rfl, HFIN.out _ B9.out⟩
end Go.Proofs.Ytknimlpdpgpliaa
