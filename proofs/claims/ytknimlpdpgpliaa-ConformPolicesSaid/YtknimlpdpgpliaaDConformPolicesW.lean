/- The walk of ConformPolices. By the verifier's side. -/
import Derived.Test.YtknimlpdpgpliaaDCfZ
namespace Go.Proofs.Ytknimlpdpgpliaa
open Go.RowKit
set_option linter.unusedSimpArgs false
set_option linter.unusedVariables false

set_option maxRecDepth 100000 in
set_option maxHeartbeats 6400000 in
theorem conformPolices_walk (W : World) (a : Option Addr) (n cap : Nat) (hrow : RowAt W a n cap) :
    Calls Try.prog 10 #[.slice a n cap] W fun e w' => e = .returned (.bool true) ∧ Below W.heap.size W w' := by
  have HR := Lib.hid hrow
  clear hrow
  go_enter Try.func10, Try.ntmps10
  go_wp2_with fail
  refine (new_any a n cap _ HR.out).mono ?_
  rintro e ww1 ⟨rfl, hb1, hz1', ra, rn, rc, hs1⟩
  have HB1 := Lib.hid hb1
  have HS1 := Lib.hid hs1
  have hbl : W.heap.size < ww1.heap.size := by omega
  clear hb1 hz1' hs1
  go_wp2_with fail
  refine (traffic14 12 (by omega) 2 9 (by decide) (by decide) _ ra rn rc _ HS1.out).mono ?_
  rintro e ww2 ⟨lp, a1, n1, c1, rfl, hdr, hs2, he2, hr2, hx2⟩
  have HD := Lib.hid hdr
  have HH2 := Lib.hid ((Hld13.start HS1.out).call hs2 he2)
  have R2 := Lib.hid hr2
  have X2 := Lib.hid (show ∀ x, a1 = some x → ¬ x.block = W.heap.size from fun x hx => by have := hx2 x hx; omega)
  clear hdr hs2 he2 hr2 hx2
  go_wp2_with fail
  refine (zero_any3 6 (by omega) (by omega) _ ra rn rc _ (HH2.out.at HS1.out)).mono ?_
  rintro e ww3 ⟨af, nf, capf, zs, p, inc, rfl, hs3, he3, hr3, hg3, hf3, h03, hsm3, hx3⟩
  have HH3 := Lib.hid (HH2.out.call hs3 he3)
  have P3 := Lib.hid (pkR_apartZ R2.out he3 X2.out)
  have Q3 := Lib.hid hr3
  have HG := Lib.hid hg3
  have HSM := Lib.hid (show inc ≤ 1000 ∧ p ≤ 8 from ⟨hsm3.1.1.2.2.1, hsm3.1.1.2.1⟩)
  clear hs3 he3 hr3 hg3 hf3 h03 hx3 R2 hsm3
  go_upto_region 3 with fail
  obtain ⟨V, hV⟩ : ∃ V, ww3.alloc (.cells #[.slice af nf capf, .int .i64 p, .int .i64 inc] 26) = V := ⟨_, rfl⟩
  obtain ⟨E, hE⟩ : ∃ E, atC zs p inc = E := ⟨_, rfl⟩
  have HE := Lib.hid hE
  have hbV : Below ww3.heap.size ww3 V := by rw [← hV]; exact (Below.refl _ _).alloc (Nat.le_refl _) _
  have HI := Lib.hid (show In64 ((p : Nat) : Int) ∧ In64 inc ∧ okC zs p inc = true from by
    have h1 := HG.out.p1
    have h2 := HG.out.p2
    have h3 := HG.out.i0
    have h4 := HG.out.i1
    exact ⟨⟨by omega, by omega⟩, ⟨by omega, by omega⟩, (okC_iff zs p inc).2 HG.out⟩)
  have HHV := Lib.hid (hldZ_below HH3.out hbV)
  have HS0 := Lib.hid (show CfB V ww3.heap.size af nf capf zs p inc V ∧ PkR V a1 n1 c1 lp from by
    rw [← hV]
    exact ⟨⟨cell_new13 rfl, cell_new13 rfl, cell_new13 rfl, Q3.out.under ((Below.refl _ _).alloc (Nat.le_refl _) _), Below.refl _ _⟩, P3.out.under ((Below.refl _ _).alloc (Nat.le_refl _) _)⟩)
  have HVC := Lib.hid (HD.out.vcode (by omega) (by omega) (by omega))
  have HFIN := Lib.hid (show ∀ wx, Below V.heap.size V wx → Below W.heap.size W wx from fun wx hx => HB1.out.trans ((hldZ_below HHV.out hx).ap.below (Nat.le_refl _) HB1.out.size))
  rw [hV]
  clear hV hE hbV HH2 HH3 P3 Q3 HD
  obtain ⟨F, hF⟩ : ∃ F, ww3.heap.size = F := ⟨_, rfl⟩
  rw [hF] at HS0 ⊢
  clear hF
  obtain ⟨x0, x1, x2⟩ := And.intro HS0.out.1.f0 (And.intro HS0.out.1.f1 HS0.out.1.f2)
  have hp1 := police14 a1 n1 c1 lp 0 HVC.out (by decide) af nf capf zs p inc HI.out.1 HI.out.2.1 HG.out V HS0.out.2 HS0.out.1.row
  rw [HE.out] at hp1
  have HP1 := Lib.hid hp1
  clear hp1
  have HVQ := Lib.hid (vcode_sub HVC.out (polL_mem (E := E) (fl := 0) lp []))
  have HLN := Lib.hid (polI_len E 0 lp [] 0)
  have HAG := Lib.hid (pol_again (E := E) (fl := 0) (by decide) lp)
  have HFT := Lib.hid (pol_fit (E := E) (fl := 0) (by decide) lp)
  have HKP := Lib.hid (pol_keeps (E := E) (fl := 0) (by decide) lp)
  have HOT := Lib.hid (polL_other (E := E) (fl := 0) (g := 1) (by decide) (by decide) (by decide) lp [])
  go_wp2_with fail
  refine HP1.out.mono ?_
  rintro e ww4 ⟨a4, n4, c4, a5, n5, c5, rfl, hb4, hr4, _, hn5, _⟩
  have HS4 := Lib.hid (And.intro (HS0.out.1.call hb4) (HS0.out.2.under hb4))
  obtain ⟨lq, hlq⟩ : ∃ lq, polL E 0 [] lp = lq := ⟨_, rfl⟩
  obtain ⟨gn, hgn⟩ : ∃ gn, polI E 0 0 [] lp = gn := ⟨_, rfl⟩
  rw [hlq] at hr4 HVQ HLN HAG HFT HOT
  rw [hgn] at hn5 HLN HKP
  have HR4 := Lib.hid hr4
  have HN5 := Lib.hid hn5
  have hnn : (n4 : Int) + (n5 : Int) = (n1 : Int) := by
    have h1 := hr4.len
    have h2 := HS0.out.2.len
    have h3 := HLN.out
    omega
  have hn1 : n1 ≤ 60 := by rw [← HS0.out.2.len]; exact (vcode_ok HVC.out).1
  have hwn : IntKind.i64.wrap (n1 : Int) = (n1 : Int) := IntWalk.i64_in _ ⟨by omega, by omega⟩
  clear hb4 hr4 hn5 x0 x1 x2 HP1 HS0 hlq hgn
  obtain ⟨x0, x1, x2⟩ := And.intro HS4.out.1.f0 (And.intro HS4.out.1.f1 HS4.out.1.f2)
  have hp2 := police14 a4 n4 c4 lq 0 HVQ.out (by decide) af nf capf zs p inc HI.out.1 HI.out.2.1 HG.out ww4 HR4.out HS4.out.1.row
  rw [HE.out, HAG.out.1, HAG.out.2] at hp2
  have HP2 := Lib.hid hp2
  clear hp2
  go_wp2_with fail
  refine HP2.out.mono ?_
  rintro e ww5 ⟨a6, n6, c6, a7, n7, c7, rfl, hb5, hr5, _, hn7, _⟩
  obtain rfl : n7 = 0 := hn7
  have HS5 := Lib.hid (And.intro (HS4.out.1.call hb5) (HS4.out.2.under hb5))
  have HR5 := Lib.hid (And.intro (HR4.out.under hb5) hr5)
  clear hb5 hr5 x0 x1 x2 HP2 HS4 HR4
  obtain ⟨x0, x1, x2⟩ := And.intro HS5.out.1.f0 (And.intro HS5.out.1.f1 HS5.out.1.f2)
  have HK := Lib.hid (keeps14 a4 n4 c4 lq 0 af nf capf zs p inc HI.out.1 HI.out.2.1 true (by rw [keepsA_ok HVQ.out (by decide) HI.out.2.2, HE.out]; exact HFT.out) ww5 HR5.out.1 HS5.out.1.row)
  go_wp2_with fail
  refine HK.out.mono ?_
  rintro e ww6 ⟨rfl, hb6⟩
  have HS6 := Lib.hid (And.intro (HS5.out.1.call hb6) (HS5.out.2.under hb6))
  have HR6 := Lib.hid (And.intro (HR5.out.1.under hb6) (HR5.out.2.under hb6))
  clear hb6 x0 x1 x2 HK HS5 HR5
  go_wp2_with fail
  refine (rsame13_any a4 n4 c4 lq a6 n6 c6 lq true (pkEq_self lq) _ HR6.out.1 HR6.out.2).mono ?_
  rintro e w7 ⟨rfl, m7, rfl⟩
  obtain ⟨ww7, hu7⟩ : ∃ ww7, ww6.drewN m7 = ww7 := ⟨_, rfl⟩
  have hb7 : Below ww6.heap.size ww6 ww7 := by rw [← hu7]; exact (Below.refl _ _).drewN _
  have HS7 := Lib.hid (And.intro (HS6.out.1.call hb7) (HS6.out.2.under hb7))
  have HR7 := Lib.hid (HR6.out.1.under hb7)
  rw [hu7]
  clear hu7 hb7 HS6 HR6
  go_wp2_with fail
  refine (rselect13 a4 n4 c4 lq 1 _ HR7.out).mono ?_
  rintro e ww8 ⟨a8, n8, c8, rfl, hb8, hr8, hx8⟩
  have HS8 := Lib.hid (And.intro (HS7.out.1.call hb8) (HS7.out.2.under hb8))
  have HR8 := Lib.hid hr8
  clear hb8 hr8 hx8 HS7 HR7
  go_wp2_with fail
  refine (rselect13 a1 n1 c1 lp 1 _ HS8.out.2).mono ?_
  rintro e ww9 ⟨a9, n9, c9, rfl, hb9, hr9, hx9⟩
  have HS9 := Lib.hid (And.intro (HS8.out.1.call hb9) (HS8.out.2.under hb9))
  have HR9 := Lib.hid (And.intro (HR8.out.under hb9) hr9)
  clear hb9 hr9 hx9 HS8 HR8
  go_wp2_with fail
  refine (rsame13_any a8 n8 c8 (sel 1 lq) a9 n9 c9 (sel 1 lp) true (by rw [HOT.out]; exact pkEq_self _) _ HR9.out.1 HR9.out.2).mono ?_
  rintro e w10 ⟨rfl, m10, rfl⟩
  obtain ⟨ww10, hu10⟩ : ∃ ww10, ww9.drewN m10 = ww10 := ⟨_, rfl⟩
  have hb10 : Below ww9.heap.size ww9 ww10 := by rw [← hu10]; exact (Below.refl _ _).drewN _
  have HS10 := Lib.hid (And.intro (HS9.out.1.call hb10) (HS9.out.2.under hb10))
  rw [hu10]
  clear hu10 hb10 HS9 HR9
  obtain ⟨x0, x1, x2⟩ := And.intro HS10.out.1.f0 (And.intro HS10.out.1.f1 HS10.out.1.f2)
  obtain ⟨b, hb⟩ : ∃ b, kpB E 0 lp = b := ⟨_, rfl⟩
  have HK := Lib.hid (keeps14 a1 n1 c1 lp 0 af nf capf zs p inc HI.out.1 HI.out.2.1 b (by rw [keepsA_ok HVC.out (by decide) HI.out.2.2, HE.out]; exact hb) ww10 HS10.out.2 HS10.out.1.row)
  have HBB := Lib.hid hb
  clear hb
  cases b with
  | true =>
    have hg0 : gn = [] := HKP.out.1 HBB.out
    obtain rfl : n5 = 0 := by rw [HN5.out, hg0]; rfl
    clear hg0
    go_wp2_with fail
    refine HK.out.mono ?_
    rintro e ww11 ⟨rfl, hb11⟩
    have HS11 := Lib.hid (HS10.out.1.call hb11).below
    clear hb11
    go_wp2_with fail
    refine (awake14 _).mono ?_
    rintro e ww12 ⟨rfl, hb12⟩
    have HB12 := Lib.hid (HS11.out.trans (hb12.mono HS11.out.size))
    clear hb12
    go_wp2_with fail
    go_ret
    exact ⟨rfl, HFIN.out _ HB12.out⟩
  | false =>
    have hg0 : ¬ n5 = 0 := fun h => by
      rw [HN5.out] at h
      have := HKP.out.2 (List.length_eq_zero_iff.1 h)
      rw [show fitR E (sel 0 lp).reverse = false from HBB.out] at this
      cases this
    have hg1 : ¬ (n5 : Int) = 0 := by omega
    have hg2 : ((n5 : Int) == 0) = false := by simp; omega
    go_wp2_with fail
    refine HK.out.mono ?_
    rintro e ww11 ⟨rfl, hb11⟩
    have HS11 := Lib.hid (HS10.out.1.call hb11).below
    clear hb11
    go_wp2_with fail
    refine (awake14 _).mono ?_
    rintro e ww12 ⟨rfl, hb12⟩
    have HB12 := Lib.hid (HS11.out.trans (hb12.mono HS11.out.size))
    clear hb12
    go_wp2_with fail
    go_ret
    exact ⟨rfl, HFIN.out _ HB12.out⟩
end Go.Proofs.Ytknimlpdpgpliaa
