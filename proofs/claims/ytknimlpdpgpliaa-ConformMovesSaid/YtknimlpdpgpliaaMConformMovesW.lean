/- The walk of ConformMoves. By the verifier's side. -/
import Derived.Test.YtknimlpdpgpliaaMCfZ
import Derived.Test.YtknimlpdpgpliaaMCfW
import Derived.Test.YtknimlpdpgpliaaMCfLCfL1
import Derived.Test.YtknimlpdpgpliaaMRTrE
import Derived.Test.YtknimlpdpgpliaaMCurFCurG
import Derived.Deep.RegionHeld3
namespace Go.Proofs.Ytknimlpdpgpliaa
open Go.RowKit
set_option linter.unusedSimpArgs false
set_option linter.unusedVariables false

theorem nine_of {A B C D E F G H I X : Prop} (h : A ∧ B ∧ C ∧ D ∧ E ∧ F ∧ G ∧ H ∧ I ∧ Hid X) : X := h.2.2.2.2.2.2.2.2.2.out
theorem cm_call {U u v : World} (h : Below U.heap.size U u) (hb : Below u.heap.size u v) : Below U.heap.size U v := h.trans (hb.mono h.size)
theorem same_self (zs : List Int) (p inc : Int) : sameB zs p inc zs p inc = true := by unfold sameB; simp

set_option maxRecDepth 100000 in
set_option maxHeartbeats 6400000 in
theorem conformMoves_walk (W : World) (a : Option Addr) (n cap : Nat) (hrow : RowAt W a n cap) :
    Calls Try.prog 14 #[.slice a n cap] W fun e w' => e = .returned (.bool true) ∧ Below W.heap.size W w' := by
  have HR := Lib.hid hrow
  clear hrow
  go_enter Try.func14, Try.ntmps14
  go_wp2_with fail
  refine (new_any a n cap _ HR.out).mono ?_
  rintro e ww1 ⟨rfl, hb1, hz1', ra, rn, rc, hs1⟩
  have HB1 := Lib.hid hb1
  have HS1 := Lib.hid hs1
  have hbl : W.heap.size < ww1.heap.size := by omega
  clear hb1 hz1' hs1
  go_wp2_with fail
  refine (traffic14 10 (by omega) 2 9 (by decide) (by decide) _ ra rn rc _ HS1.out).mono ?_
  rintro e ww2 ⟨lp, a1, n1, c1, rfl, hdr, hs2, he2, hr2, hx2⟩
  have HD := Lib.hid hdr
  have HH2 := Lib.hid ((Hld13.start HS1.out).call hs2 he2)
  have R2 := Lib.hid hr2
  have X2 := Lib.hid (show ∀ x, a1 = some x → ¬ x.block = W.heap.size from fun x hx => by have := hx2 x hx; omega)
  clear hdr hs2 he2 hr2 hx2
  go_wp2_with fail
  refine (zero_any3 6 (by omega) (by omega) _ ra rn rc _ (HH2.out.at HS1.out)).mono ?_
  rintro e ww3 ⟨af, nf, capf, zs, p, inc, rfl, hs3, he3, hr3, hg3, hf3, h03, hsm3, hx3⟩
  have HH3 := Lib.hid (HH2.out.call hs3 he3)
  have P3 := Lib.hid (pkR_apartZ R2.out he3 X2.out)
  have Q3 := Lib.hid hr3
  have HG := Lib.hid hg3
  have HFAR := Lib.hid (show ∀ x, af = some x → ¬ x.block = W.heap.size from fun x hx => by have := hx3 x hx; have := HH2.out.lt; omega)
  clear hs3 he3 hr3 hg3 hf3 h03 hx3 hsm3 R2 HH2
  go_upto_region 3 with fail
  obtain ⟨V, hV⟩ : ∃ V, ww3.alloc (.cells #[.slice af nf capf, .int .i64 p, .int .i64 inc] 26) = V := ⟨_, rfl⟩
  obtain ⟨E, hE⟩ : ∃ E, atC zs p inc = E := ⟨_, rfl⟩
  have HE := Lib.hid hE
  have hbV : Below ww3.heap.size ww3 V := by rw [← hV]; exact (Below.refl _ _).alloc (Nat.le_refl _) _
  have HI := Lib.hid (show In64 ((p : Nat) : Int) ∧ In64 inc ∧ okC zs p inc = true from by
    have h1 := HG.out.p1
    have h2 := HG.out.p2
    have h3 := HG.out.i0
    have h4 := HG.out.i1
    exact ⟨⟨by omega, by omega⟩, ⟨by omega, by omega⟩, (okC_iff zs p inc).2 HG.out⟩)
  have HHV := Lib.hid (hldZ_below HH3.out hbV)
  have HS0 := Lib.hid (show CfB V ww3.heap.size af nf capf zs p inc V from by
    rw [← hV]
    exact ⟨cell_new13 rfl, cell_new13 rfl, cell_new13 rfl, Q3.out.under ((Below.refl _ _).alloc (Nat.le_refl _) _), Below.refl _ _⟩)
  have PV := Lib.hid (P3.out.under hbV)
  have hFW : W.heap.size < ww3.heap.size := HH3.out.lt
  have hFV : ww3.heap.size < V.heap.size := by rw [← hV]; simp
  rw [hV]
  clear hV hE hbV HH3 Q3 P3
  obtain ⟨F, hF⟩ : ∃ F, ww3.heap.size = F := ⟨_, rfl⟩
  rw [hF] at HS0 hFW hFV ⊢
  clear hF
  go_wp2_with fail
  refine (n_any 60 (by omega) (by omega) _ ra rn rc _ (HHV.out.at HS1.out)).mono ?_
  rintro e ww4 ⟨d, ⟨hd0, hd6⟩, rfl, hs4, he4⟩
  have ha4 := he4.apart
  have HH4 := Lib.hid (HHV.out.call hs4 ha4)
  have HS4 := Lib.hid (show CfB ww4 F af nf capf zs p inc ww4 from by
    have hne : ∀ q, q ≠ W.heap.size → q < V.heap.size → ww4.heap[q]? = V.heap[q]? := fun q h1 h2 => ha4.block q h2 h1
    have hcell : ∀ o, ww4.cell? ⟨F, o, none⟩ = V.cell? ⟨F, o, none⟩ := fun o => World.cell?_of_block (w := V) (a := ⟨F, o, none⟩) (hne F (by omega) hFV)
    exact ⟨(hcell 0).trans HS0.out.f0, (hcell 1).trans HS0.out.f1, (hcell 2).trans HS0.out.f2, HS0.out.row.apart ha4 (fun x hx => HFAR.out x hx), Below.refl _ _⟩)
  have P4 := Lib.hid (pkR_apartZ PV.out ha4 X2.out)
  have HVC := Lib.hid (HD.out.vcode (by omega) (by omega) (by omega))
  have HDD := Lib.hid (And.intro hd0 hd6)
  have HFIN := Lib.hid (show ∀ wx, Below ww4.heap.size ww4 wx → Below W.heap.size W wx from fun wx hx => HB1.out.trans ((hldZ_below HH4.out hx).ap.below (Nat.le_refl _) HB1.out.size))
  clear hs4 he4 ha4 hd0 hd6 HS0 HHV PV HH4
  have HLC := Lib.hid (show lcode d lp = 0 ∧ laterL d lp = lp.map (lateP d) from by
    rcases later_ways d lp with ⟨x, hx, hx0, _, _⟩ | ⟨_, h, _, _⟩ | ⟨_, _, _, ⟨q, hq, hqd, _⟩, _, _⟩ | ⟨_, _, _, _, e1, e2⟩
    · exact absurd (hx.symm.trans HVC.out) hx0
    · have := HDD.out; omega
    · have h1 := HD.out.ok q (List.mem_of_getElem? hq)
      have h2 := HDD.out
      omega
    · exact ⟨e1, e2⟩)
  go_wp2_with fail
  refine (rlater13 a1 n1 c1 lp d _ P4.out).mono ?_
  rintro e ww5 ⟨a5, n5, c5, rfl, hb5, hr5⟩
  rw [HLC.out.1]
  obtain ⟨lq, hlq⟩ : ∃ lq, lp.map (lateP d) = lq := ⟨_, rfl⟩
  rw [HLC.out.2, hlq] at hr5
  have P5 := Lib.hid (And.intro (P4.out.under hb5) hr5)
  have B5 := Lib.hid hb5
  have HLQ := Lib.hid hlq
  have HVQ := Lib.hid (show vcode lq = 0 from by
    obtain ⟨h1, h2, h3⟩ := vcode_ok HVC.out
    rw [← hlq]
    refine vcode_of (by rw [List.length_map]; exact h1) (fun q hq => ?_) (List.pairwise_map.2 (h3.imp fun h => by show _ + d ≤ _ + d; omega))
    obtain ⟨y, hy, rfl⟩ := List.mem_map.1 hq
    have h4 := HD.out.ok y hy
    have h5 := HDD.out
    exact (okP_iff _).2 (by
      show 0 ≤ y.f ∧ y.f ≤ 59 ∧ 0 ≤ y.t + d ∧ y.t + d ≤ 2000 ∧ 1 ≤ y.s ∧ y.s ≤ 1500
      omega))
  have HFF := Lib.hid (show lstF (sel 0 lq) = lstF (sel 0 lp) from by rw [← hlq, sel_late, lstF_late])
  have HCB := Lib.hid (show CanBe (lstF (sel 0 lp)) from by
    obtain ⟨h1, h2, h3⟩ := vcode_ok HVC.out
    refine lst_can (fun x hx => h2 x (List.mem_filter.1 hx).1) (Nat.le_trans (sel_le 0 lp) h1) (h3.filter _) ?_
    have := lstS_small (l := sel 0 lp) (m := 70) (fun q hq => by have := HD.out.ok q (List.mem_filter.1 hq).1; omega)
    omega)
  have HKE := Lib.hid (show keepsA lq 0 zs p inc = keepsA lp 0 zs p inc from by
    rw [keepsA_ok HVQ.out (by decide) HI.out.2.2, keepsA_ok HVC.out (by decide) HI.out.2.2, ← hlq, kpB_late])
  clear hb5 hr5 hlq P4
  go_wp2_with fail
  refine (least14 a1 n1 c1 lp 0 0 (by unfold fcode; rw [HVC.out]; rfl) _ P5.out.1).mono ?_
  rintro e ww6 (⟨_, hb6, ⟨a6, n6, c6, z6, p6, i6, rfl, hr6, hf6, hx6⟩ | ⟨_, hno⟩⟩ | ⟨h, _⟩)
  rotate_left
  · exact absurd HCB.out hno
  · exact absurd rfl h
  go_upto_region 5 with fail
  obtain ⟨U6, hU6⟩ : ∃ U, ww6.alloc (.cells #[.slice a6 n6 c6, .int .i64 p6, .int .i64 i6] 26) = U := ⟨_, rfl⟩
  have hbu : Below ww6.heap.size ww6 U6 := by rw [← hU6]; exact (Below.refl _ _).alloc (Nat.le_refl _) _
  have B6 := Lib.hid (cm_call (cm_call B5.out hb6) hbu)
  have P6 := Lib.hid (And.intro ((P5.out.1.under hb6).under hbu) ((P5.out.2.under hb6).under hbu))
  have R6 := Lib.hid (hr6.under hbu)
  have F6 := Lib.hid hf6
  have C6 := Lib.hid (show Cur3 U6 ww6.heap.size (.slice a6 n6 c6) (.int .i64 p6) (.int .i64 i6) from by rw [← hU6]; exact Cur3.new _ _ _ _ _)
  rw [hU6]
  clear hU6 hbu hb6 hr6 hf6 hx6 P5 B5
  obtain ⟨G, hG⟩ : ∃ G, ww6.heap.size = G := ⟨_, rfl⟩
  rw [hG] at C6 ⊢
  clear hG
  go_wp2_with fail
  refine (least14 a5 n5 c5 lq 0 0 (by unfold fcode; rw [HVQ.out]; rfl) _ P6.out.2).mono ?_
  rintro e ww7 (⟨_, hb7, ⟨a7, n7, c7, z7, p7, i7, rfl, hr7, hf7, hx7⟩ | ⟨_, hno⟩⟩ | ⟨h, _⟩)
  rotate_left
  · exact absurd (by rw [HFF.out]; exact HCB.out) hno
  · exact absurd rfl h
  rw [HFF.out] at hf7
  obtain ⟨rfl, rfl, rfl⟩ := F6.out.unique hf7
  go_upto_region 6 with fail
  obtain ⟨U7, hU7⟩ : ∃ U, ww7.alloc (.cells #[.slice a7 n7 c7, .int .i64 p6, .int .i64 i6] 26) = U := ⟨_, rfl⟩
  have hbu : Below ww7.heap.size ww7 U7 := by rw [← hU7]; exact (Below.refl _ _).alloc (Nat.le_refl _) _
  have B7 := Lib.hid (cm_call (cm_call B6.out hb7) hbu)
  have P7 := Lib.hid (And.intro ((P6.out.1.under hb7).under hbu) ((P6.out.2.under hb7).under hbu))
  have R7 := Lib.hid (And.intro ((R6.out.under hb7).under hbu) (hr7.under hbu))
  have C7 := Lib.hid (And.intro ((C6.out.below hb7).below hbu) (show Cur3 U7 ww7.heap.size (.slice a7 n7 c7) (.int .i64 p6) (.int .i64 i6) from by rw [← hU7]; exact Cur3.new _ _ _ _ _))
  have HS7 := Lib.hid (((HS4.out.call B7.out)))
  rw [hU7]
  clear hU7 hbu hb7 hr7 hf7 hx7 P6 B6 R6 C6 HS4
  obtain ⟨H, hH⟩ : ∃ H, ww7.heap.size = H := ⟨_, rfl⟩
  rw [hH] at C7 ⊢
  clear hH
  have HK := Lib.hid (show ∀ u, Below U7.heap.size U7 u → (u.cell? ⟨F, 0, none⟩ = some (.slice af nf capf) ∧ u.cell? ⟨F, 1, none⟩ = some (.int .i64 p) ∧ u.cell? ⟨F, 2, none⟩ = some (.int .i64 inc) ∧ u.cell? ⟨G, 0, none⟩ = some (.slice a6 n6 c6) ∧ u.cell? ⟨G, 1, none⟩ = some (.int .i64 p6) ∧ u.cell? ⟨G, 2, none⟩ = some (.int .i64 i6) ∧ u.cell? ⟨H, 0, none⟩ = some (.slice a7 n7 c7) ∧ u.cell? ⟨H, 1, none⟩ = some (.int .i64 p6) ∧ u.cell? ⟨H, 2, none⟩ = some (.int .i64 i6) ∧ Hid (Below U7.heap.size U7 u)) from fun u hb => by
    have k0 := HS7.out.call hb
    have k1 := C7.out.1.below hb
    have k2 := C7.out.2.below hb
    exact ⟨k0.f0, k0.f1, k0.f2, k1.c0, k1.c1, k1.c2, k2.c0, k2.c1, k2.c2, Lib.hid hb⟩)
  have HK0 := Lib.hid (HK.out _ (Below.refl U7.heap.size U7).drew)
  obtain ⟨b, hb⟩ : ∃ b, keepsA lp 0 zs p inc = b := ⟨_, rfl⟩
  have HKB := Lib.hid (And.intro hb (HKE.out.trans hb))
  clear hb
  go_region_held3 (fun u => u.cell? ⟨F, 0, none⟩ = some (.slice af nf capf) ∧ u.cell? ⟨F, 1, none⟩ = some (.int .i64 p) ∧ u.cell? ⟨F, 2, none⟩ = some (.int .i64 inc) ∧ u.cell? ⟨G, 0, none⟩ = some (.slice a6 n6 c6) ∧ u.cell? ⟨G, 1, none⟩ = some (.int .i64 p6) ∧ u.cell? ⟨G, 2, none⟩ = some (.int .i64 i6) ∧ u.cell? ⟨H, 0, none⟩ = some (.slice a7 n7 c7) ∧ u.cell? ⟨H, 1, none⟩ = some (.int .i64 p6) ∧ u.cell? ⟨H, 2, none⟩ = some (.int .i64 i6) ∧ Hid (Below U7.heap.size U7 u))
    (first | with_reducible exact HK0.out | with_reducible exact HK.out _ (cm_call (nine_of (by assumption)) hb11) | with_reducible exact HK.out _ (cm_call (nine_of (by assumption)) hb10) | with_reducible exact HK.out _ (cm_call (nine_of (by assumption)) hb9) | with_reducible exact HK.out _ (cm_call (nine_of (by assumption)) hb8) | with_reducible exact HK.out _ (nine_of (by assumption)).drew)
    (first
      | (go_at_call 19; ((with_reducible refine (rsame_any a6 n6 c6 z6 p6 i6 a7 n7 c7 z6 p6 i6 true (same_self z6 p6 i6) _ (R7.out.1.under (nine_of (by assumption))) (R7.out.2.under (nine_of (by assumption)))).mono ?_); rintro e w8 ⟨rfl, hb8⟩))
      | (go_at_call 60; ((with_reducible refine (keeps14 a1 n1 c1 lp 0 af nf capf zs p inc HI.out.1 HI.out.2.1 b HKB.out.1 _ (P7.out.1.under (nine_of (by assumption))) (HS7.out.row.under (nine_of (by assumption)))).mono ?_); rintro e w9 ⟨rfl, hb9⟩))
      | (go_at_call 60; ((with_reducible refine (keeps14 a5 n5 c5 lq 0 af nf capf zs p inc HI.out.1 HI.out.2.1 b HKB.out.2 _ (P7.out.2.under (nine_of (by assumption))) (HS7.out.row.under (nine_of (by assumption)))).mono ?_); rintro e w10 ⟨rfl, hb10⟩))
      | (go_at_call 55; ((with_reducible refine (awake14 _).mono ?_); rintro e w11 ⟨rfl, hb11⟩; have HEND := Lib.hid (cm_call (nine_of (by assumption)) hb11))))
  go_wp2_with fail
  go_ret
  exact ⟨rfl, HFIN.out _ (cm_call B7.out HEND.out)⟩
end Go.Proofs.Ytknimlpdpgpliaa
