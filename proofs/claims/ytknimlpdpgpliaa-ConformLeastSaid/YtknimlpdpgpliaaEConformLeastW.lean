/- The walk of ConformLeast. By the verifier's side. -/
import Derived.Test.YtknimlpdpgpliaaECfZ
import Derived.Test.YtknimlpdpgpliaaECfW
import Derived.Test.YtknimlpdpgpliaaECfLCfL1CfL2
import Derived.Test.YtknimlpdpgpliaaECloBCloCCfJ
import Derived.Test.YtknimlpdpgpliaaERefA
import Derived.Deep.RegionHeld3
namespace Go.Proofs.Ytknimlpdpgpliaa
open Go.RowKit
set_option linter.unusedSimpArgs false
set_option linter.unusedVariables false

theorem six_of {A B C D E F X : Prop} (h : A ∧ B ∧ C ∧ D ∧ E ∧ F ∧ Hid X) : X := h.2.2.2.2.2.2.out
theorem cl_call {U u v : World} (h : Below U.heap.size U u) (hb : Below u.heap.size u v) : Below U.heap.size U v := h.trans (hb.mono h.size)
/-- Whether one is nowhere greater than the other at the ticks from 1 on, ahead of k. -/
def hbL (F E : Nat → Int) : Nat → Bool
  | 0 => true
  | k + 1 => hbL F E k && (decide (k = 0) || decide (F k ≤ E k))
theorem hbL_iff (F E : Nat → Int) : ∀ k, hbL F E k = true ↔ ∀ t, 1 ≤ t → t < k → F t ≤ E t
  | 0 => ⟨fun _ t _ h => by omega, fun _ => rfl⟩
  | k + 1 => by
    unfold hbL
    rw [Bool.and_eq_true, hbL_iff F E k, Bool.or_eq_true, decide_eq_true_eq, decide_eq_true_eq]
    constructor
    · rintro ⟨h1, h2⟩ t ht htk
      rcases Nat.lt_or_eq_of_le (Nat.le_of_lt_succ htk) with h | rfl
      · exact h1 t ht h
      · rcases h2 with h2 | h2
        · omega
        · exact h2
    · intro h
      refine ⟨fun t h1 h2 => h t h1 (by omega), ?_⟩
      by_cases hk : k = 0
      · exact .inl hk
      · exact .inr (h k (by omega) (by omega))
theorem hbL_next (F E : Nat → Int) {k : Nat} (hk : 1 ≤ k) : hbL F E (k + 1) = (hbL F E k && decide (F k ≤ E k)) := by
  show (hbL F E k && (decide (k = 0) || decide (F k ≤ E k))) = _
  rw [decide_eq_false (show ¬ k = 0 by omega), Bool.false_or]
/-- The least curve is sub-additive. -/
theorem lst_subA {l : List Pk} (ho : ∀ q ∈ l, okP q = true) (hl : l.length ≤ 60) (ha : Asc l) {zs : List Int} {p : Nat} {inc : Int} (hf : Form zs p inc (lstF l)) : SubA (eC zs p inc) := fun s u => by
  have h : ∀ t, eC zs p inc t = some (lstF l t) := fun t => by
    unfold eC
    rw [hf.2.1 t, if_neg]
    rintro ⟨_, h⟩
    have := lst_bd ho hl t
    rw [h] at this
    have h2 := this.2
    unfold infV at h2
    omega
  rw [h, h, h]
  exact ole_some (lst_sub ho hl ha s u)

set_option maxRecDepth 100000 in
set_option maxHeartbeats 6400000 in
theorem conformLeast_walk (W : World) (a : Option Addr) (n cap : Nat) (hrow : RowAt W a n cap) :
    Calls Try.prog 9 #[.slice a n cap] W fun e w' => e = .returned (.bool true) ∧ Below W.heap.size W w' := by
  have HR := Lib.hid hrow
  clear hrow
  go_enter Try.func9, Try.ntmps9
  go_wp2_with fail
  refine (new_any a n cap _ HR.out).mono ?_
  rintro e ww1 ⟨rfl, hb1, hz1', ra, rn, rc, hs1⟩
  have HB1 := Lib.hid hb1
  have HS1 := Lib.hid hs1
  have hbl : W.heap.size < ww1.heap.size := by omega
  clear hb1 hz1' hs1
  go_wp2_with fail
  refine (traffic14 10 (by omega) 2 9 (by decide) (by decide) _ ra rn rc _ HS1.out).mono ?_
  rintro e ww2 ⟨lp, a1, n1, c1, rfl, hdr, hs2, he2, hr2, hx2⟩
  have HD := Lib.hid hdr
  have HH2 := Lib.hid ((Hld13.start HS1.out).call hs2 he2)
  have R2 := Lib.hid hr2
  have X2 := Lib.hid (show ∀ x, a1 = some x → ¬ x.block = W.heap.size from fun x hx => by have := hx2 x hx; omega)
  clear hdr hs2 he2 hr2 hx2
  go_wp2_with fail
  refine (curve_any 7 (by omega) (by omega) _ ra rn rc _ (HH2.out.at HS1.out)).mono ?_
  rintro e ww3 ⟨af, nf, capf, zs, p, inc, rfl, hs3, he3, hr3, ok3, hx3⟩
  have HH3 := Lib.hid (HH2.out.call hs3 he3)
  have P3 := Lib.hid (pkR_apartZ R2.out he3 X2.out)
  have Q3 := Lib.hid hr3
  have HG := Lib.hid ok3.good
  have HFAR := Lib.hid (show ∀ x, af = some x → ¬ x.block = W.heap.size from fun x hx => by have := hx3 x hx; have := HH2.out.lt; omega)
  clear hs3 he3 hr3 ok3 hx3 R2 HH2
  go_upto_region 3 with fail
  obtain ⟨V, hV⟩ : ∃ V, ww3.alloc (.cells #[.slice af nf capf, .int .i64 p, .int .i64 inc] 26) = V := ⟨_, rfl⟩
  obtain ⟨E, hE⟩ : ∃ E, atC zs p inc = E := ⟨_, rfl⟩
  have HE := Lib.hid hE
  have hbV : Below ww3.heap.size ww3 V := by rw [← hV]; exact (Below.refl _ _).alloc (Nat.le_refl _) _
  have HI := Lib.hid (show In64 ((p : Nat) : Int) ∧ In64 inc ∧ okC zs p inc = true from by
    have h1 := HG.out.p1
    have h2 := HG.out.p2
    have h3 := HG.out.i0
    have h4 := HG.out.i1
    exact ⟨⟨by omega, by omega⟩, ⟨by omega, by omega⟩, (okC_iff zs p inc).2 HG.out⟩)
  have HMO := Lib.hid (show (∀ i j, i ≤ j → E i ≤ E j) ∧ 0 ≤ E 0 from ⟨fun i j hij => by
    rw [← hE]
    have := HG.out.up (j - i) i
    rwa [show i + (j - i) = j by omega] at this, by rw [← hE]; exact HG.out.nonneg 0⟩)
  have HHV := Lib.hid (hldZ_below HH3.out hbV)
  have HS0 := Lib.hid (show CfB V ww3.heap.size af nf capf zs p inc V from by
    rw [← hV]
    exact ⟨cell_new13 rfl, cell_new13 rfl, cell_new13 rfl, Q3.out.under ((Below.refl _ _).alloc (Nat.le_refl _) _), Below.refl _ _⟩)
  have PV := Lib.hid (P3.out.under hbV)
  have hFW : W.heap.size < ww3.heap.size := HH3.out.lt
  have hFV : ww3.heap.size < V.heap.size := by rw [← hV]; simp
  rw [hV]
  clear hV hE hbV HH3 Q3 P3
  obtain ⟨F, hF⟩ : ∃ F, ww3.heap.size = F := ⟨_, rfl⟩
  rw [hF] at HS0 hFW hFV ⊢
  clear hF
  go_wp2_with fail
  refine (n_any 3 (by omega) (by omega) _ ra rn rc _ (HHV.out.at HS1.out)).mono ?_
  rintro e ww4 ⟨c0, ⟨hd0, hd6⟩, rfl, hs4, he4⟩
  have ha4 := he4.apart
  obtain ⟨fl, hfl⟩ : ∃ fl : Int, c0 - 1 = fl := ⟨_, rfl⟩
  have hf1 : -1 ≤ fl := by omega
  have hf2 : fl ≤ 1 := by omega
  have hwf : IntKind.i64.wrap fl = fl := IntWalk.i64_in _ ⟨by omega, by omega⟩
  have HH4 := Lib.hid (HHV.out.call hs4 ha4)
  have HS4 := Lib.hid (show CfB ww4 F af nf capf zs p inc ww4 from by
    have hne : ∀ q, q ≠ W.heap.size → q < V.heap.size → ww4.heap[q]? = V.heap[q]? := fun q h1 h2 => ha4.block q h2 h1
    have hcell : ∀ o, ww4.cell? ⟨F, o, none⟩ = V.cell? ⟨F, o, none⟩ := fun o => World.cell?_of_block (w := V) (a := ⟨F, o, none⟩) (hne F (by omega) hFV)
    exact ⟨(hcell 0).trans HS0.out.f0, (hcell 1).trans HS0.out.f1, (hcell 2).trans HS0.out.f2, HS0.out.row.apart ha4 (fun x hx => HFAR.out x hx), Below.refl _ _⟩)
  have P4 := Lib.hid (pkR_apartZ PV.out ha4 X2.out)
  have HVC := Lib.hid (HD.out.vcode (by omega) (by omega) (by omega))
  have HFIN := Lib.hid (show ∀ wx, Below ww4.heap.size ww4 wx → Below W.heap.size W wx from fun wx hx => HB1.out.trans ((hldZ_below HH4.out hx).ap.below (Nat.le_refl _) HB1.out.size))
  clear hs4 he4 ha4 HS0 HHV PV HH4
  obtain ⟨own, hown⟩ : ∃ own, sel fl lp = own := ⟨_, rfl⟩
  have HOWN := Lib.hid hown
  have HOK := Lib.hid (show (∀ x ∈ own, okP x = true) ∧ own.length ≤ 60 ∧ Asc own ∧ (∀ x ∈ own, 0 ≤ x.t ∧ x.t ≤ 70) from by
    obtain ⟨h1, h2, h3⟩ := vcode_ok HVC.out
    rw [← hown]
    exact ⟨fun x hx => h2 x (List.mem_filter.1 hx).1, Nat.le_trans (sel_le fl lp) h1, h3.filter _, fun x hx => by have := HD.out.ok x (List.mem_filter.1 hx).1; omega⟩)
  have HCB := Lib.hid (show CanBe (lstF own) from by
    refine lst_can HOK.out.1 HOK.out.2.1 HOK.out.2.2.1 ?_
    have := lstS_small (l := own) (m := 70) (fun q hq => by have := HOK.out.2.2.2 q hq; omega)
    omega)
  clear hown
  go_upto_region 4 with fail
  try rw [hfl]
  clear hfl hd0 hd6
  go_wp2_with fail
  refine (least14 a1 n1 c1 lp fl 0 (by unfold fcode; rw [HVC.out, if_pos rfl, if_neg (by omega)]) _ P4.out).mono ?_
  rintro e ww6 (⟨_, hb6, ⟨a6, n6, c6, z6, p6, i6, rfl, hr6, hf6, hx6⟩ | ⟨_, hno⟩⟩ | ⟨h, _⟩)
  rotate_left
  · exact absurd (by rw [HOWN.out]; exact HCB.out) hno
  · exact absurd rfl h
  rw [HOWN.out] at hf6
  go_upto_region 5 with fail
  obtain ⟨U6, hU6⟩ : ∃ U, ww6.alloc (.cells #[.slice a6 n6 c6, .int .i64 p6, .int .i64 i6] 26) = U := ⟨_, rfl⟩
  have hbu : Below ww6.heap.size ww6 U6 := by rw [← hU6]; exact (Below.refl _ _).alloc (Nat.le_refl _) _
  have B6 := Lib.hid (cl_call hb6 hbu)
  have P6 := Lib.hid ((P4.out.under hb6).under hbu)
  have R6 := Lib.hid (hr6.under hbu)
  have F6 := Lib.hid hf6
  have C6 := Lib.hid (show Cur3 U6 ww6.heap.size (.slice a6 n6 c6) (.int .i64 p6) (.int .i64 i6) from by rw [← hU6]; exact Cur3.new _ _ _ _ _)
  have HS6 := Lib.hid (HS4.out.call B6.out)
  have HG6 := Lib.hid (show Good z6 p6 i6 from F6.out.1)
  have HI6 := Lib.hid (show In64 ((p6 : Nat) : Int) ∧ In64 i6 ∧ okC z6 p6 i6 = true from by
    have h1 := F6.out.1.p1
    have h2 := F6.out.1.p2
    have h3 := F6.out.1.i0
    have h4 := F6.out.1.i1
    exact ⟨⟨by omega, by omega⟩, ⟨by omega, by omega⟩, (okC_iff z6 p6 i6).2 F6.out.1⟩)
  rw [hU6]
  clear hU6 hbu hb6 hr6 hf6 hx6 P4 HS4
  obtain ⟨G, hG⟩ : ∃ G, ww6.heap.size = G := ⟨_, rfl⟩
  rw [hG] at C6 ⊢
  clear hG
  have hk := keeps14 a1 n1 c1 lp fl a6 n6 c6 z6 p6 i6 HI6.out.1 HI6.out.2.1 true (by
    rw [keepsA_ok HVC.out hf1 HI6.out.2.2, show atC z6 p6 i6 = lstF own from funext F6.out.2.1]
    unfold kpB
    rw [HOWN.out]
    exact least_kept HOK.out.1 HOK.out.2.2.1) U6 P6.out R6.out
  have HK := Lib.hid hk
  clear hk
  obtain ⟨g0, g1, g2, _, _, _⟩ := C6.out
  go_wp2_with fail
  refine HK.out.mono ?_
  rintro e ww7 ⟨rfl, hb7⟩
  have B7 := Lib.hid (cl_call B6.out hb7)
  have P7 := Lib.hid (P6.out.under hb7)
  have R7 := Lib.hid (R6.out.under hb7)
  have C7 := Lib.hid (C6.out.below hb7)
  have HS7 := Lib.hid (HS6.out.call hb7)
  clear hb7 g0 g1 g2 P6 R6 C6 HS6 HK B6
  go_wp2_with fail
  go_loopw [9, 10] (fun s9 s10 wx => ∃ k : Nat, s10 = .int .i64 k ∧ 1 ≤ k ∧ k ≤ 200 ∧ Hid (s9 = .bool (hbL (lstF own) E k)) ∧ Hid (Below ww7.heap.size ww7 wx)) (fun _ s10 _ => 200 - (intOf s10).toNat)
  case atStart => exact ⟨1, by go_num, Nat.le_refl _, by omega, Lib.hid rfl, Lib.hid (Below.refl _ _)⟩
  case round =>
    obtain ⟨k, rfl, hk1, hk, h9, HB⟩ := hrel
    obtain ⟨wk, rfl⟩ : ∃ u : World, u = wr := ⟨_, rfl⟩
    have e9 := h9.out
    clear h9
    subst e9
    by_cases hlt : k < 200
    · have hlI : (k : Int) < 200 := by omega
      have hk0 : (0 : Int) ≤ (k : Int) := by omega
      obtain ⟨b, hb⟩ : ∃ b, hbL (lstF own) E k = b := ⟨_, rfl⟩
      rw [hb]
      have HBB := Lib.hid hb
      have hwk : IntKind.i64.wrap ((k : Int) + 1) = (k : Int) + 1 := IntWalk.i64_in _ ⟨by omega, by omega⟩
      clear hb
      cases b with
      | false =>
        go_wp2_with fail
        go_quiet (fail)
        go_wp2_with fail
        go_roundw
        case rel => exact ⟨k + 1, by go_num, by omega, by omega, Lib.hid (by rw [hbL_next _ _ hk1, HBB.out]; rfl), Lib.hid (HB.out.drewN _)⟩
        case measure => first | (simp [intOf]; done) | (simp [intOf]; omega)
      | true =>
        obtain ⟨x, hx⟩ : ∃ x, lstF own k = x := ⟨_, rfl⟩
        obtain ⟨y, hy⟩ : ∃ y, E k = y := ⟨_, rfl⟩
        have HX := Lib.hid (show atC z6 p6 i6 k = x from by rw [F6.out.2.1 k]; exact hx)
        have HY := Lib.hid (show atC zs p inc k = y from by rw [HE.out]; exact hy)
        have HXY := Lib.hid (And.intro hx hy)
        clear hx hy
        have HK := Lib.hid (show ∀ u, Below wk.heap.size wk u → (u.cell? ⟨F, 0, none⟩ = some (.slice af nf capf) ∧ u.cell? ⟨F, 1, none⟩ = some (.int .i64 p) ∧ u.cell? ⟨F, 2, none⟩ = some (.int .i64 inc) ∧ u.cell? ⟨G, 0, none⟩ = some (.slice a6 n6 c6) ∧ u.cell? ⟨G, 1, none⟩ = some (.int .i64 p6) ∧ u.cell? ⟨G, 2, none⟩ = some (.int .i64 i6) ∧ Hid (Below wk.heap.size wk u)) from fun u hb => by
          have k0 := HS7.out.call (cl_call HB.out hb)
          have k1 := C7.out.below (cl_call HB.out hb)
          exact ⟨k0.f0, k0.f1, k0.f2, k1.c0, k1.c1, k1.c2, Lib.hid hb⟩)
        have HK0 := Lib.hid (HK.out _ (Below.refl wk.heap.size wk).drew)
        · go_wp2_with fail
          go_region_held3 (fun u => (u.cell? ⟨F, 0, none⟩ = some (.slice af nf capf) ∧ u.cell? ⟨F, 1, none⟩ = some (.int .i64 p) ∧ u.cell? ⟨F, 2, none⟩ = some (.int .i64 inc) ∧ u.cell? ⟨G, 0, none⟩ = some (.slice a6 n6 c6) ∧ u.cell? ⟨G, 1, none⟩ = some (.int .i64 p6) ∧ u.cell? ⟨G, 2, none⟩ = some (.int .i64 i6) ∧ Hid (Below wk.heap.size wk u)))
            (first | with_reducible exact HK0.out | with_reducible exact HK.out _ (cl_call (six_of (by assumption)) hb9) | with_reducible exact HK.out _ (cl_call (six_of (by assumption)) hb8) | with_reducible exact HK.out _ (six_of (by assumption)).drew)
            (first
              | (go_at_call 31; ((with_reducible refine (rat_at a6 n6 c6 z6 p6 i6 HG6.out k k rfl (by omega) x HX.out _ (R7.out.under (cl_call HB.out (six_of (by assumption))))).mono ?_); rintro e w8 ⟨rfl, hb8⟩))
              | (go_at_call 31; ((with_reducible refine (rat_at af nf capf zs p inc HG.out k k rfl (by omega) y HY.out _ (HS7.out.row.under (cl_call HB.out (six_of (by assumption))))).mono ?_); rintro e w9 ⟨rfl, hb9⟩; have HEND := Lib.hid (cl_call HB.out (cl_call (six_of (by assumption)) hb9)))))
          go_wp2_with fail
          go_roundw
          case rel => exact ⟨k + 1, by go_num, by omega, by omega, Lib.hid (by
            rw [hbL_next _ _ hk1, HBB.out, HXY.out.1, HXY.out.2, Bool.true_and]), HEND⟩
          case measure => first | (simp [intOf]; done) | (simp [intOf]; omega)
    · obtain rfl : k = 200 := by omega
      have HX := Lib.hid (show keepsA lp fl zs p inc = hbL (lstF own) E 200 from by
        rw [keepsA_ok HVC.out hf1 HI.out.2.2, HE.out]
        unfold kpB
        rw [HOWN.out, Bool.eq_iff_iff, hbL_iff]
        exact least_least HOK.out.1 HOK.out.2.2.1 E HMO.out.1 HMO.out.2 (fun q hq => by have := HOK.out.2.2.2 q hq; omega))
      obtain ⟨b, hb⟩ : ∃ b, hbL (lstF own) E 200 = b := ⟨_, rfl⟩
      rw [hb] at HX ⊢
      clear hb
      have R8 := Lib.hid (R7.out.under HB.out)
      have P8 := Lib.hid (P7.out.under HB.out)
      have HS8 := Lib.hid (HS7.out.call HB.out)
      have B8 := Lib.hid (cl_call B7.out HB.out)
      obtain ⟨g0, g1, g2, _, _, _⟩ := C7.out.below HB.out
      clear hk1 hk hlt R7 P7 HS7 C7
      go_wp2_with fail
      refine (csub14 a6 n6 c6 z6 p6 i6 F6.out.1 true ⟨fun _ => lst_subA HOK.out.1 HOK.out.2.1 HOK.out.2.2.1 F6.out, fun _ => rfl⟩ _ R8.out).mono ?_
      rintro e ww9 ⟨rfl, hb9⟩
      have P9 := Lib.hid (P8.out.under hb9)
      have HS9 := Lib.hid (HS8.out.call hb9)
      have B9 := Lib.hid (cl_call B8.out hb9)
      clear hb9 g0 g1 g2
      obtain ⟨x0, x1, x2⟩ := And.intro HS9.out.f0 (And.intro HS9.out.f1 HS9.out.f2)
      go_wp2_with fail
      refine (keeps14 a1 n1 c1 lp fl af nf capf zs p inc HI.out.1 HI.out.2.1 b HX.out _ P9.out HS9.out.row).mono ?_
      rintro e ww10 ⟨rfl, hb10⟩
      have B10 := Lib.hid (cl_call B9.out hb10)
      clear hb10 x0 x1 x2
      cases b
      all_goals
        go_wp2_with fail
        refine (awake14 _).mono ?_
        rintro e ww11 ⟨rfl, hb11⟩
        have B11 := Lib.hid (cl_call B10.out hb11)
        clear hb11
        go_wp2_with fail
        go_ret
        exact ⟨rfl, HFIN.out _ B11.out⟩
end Go.Proofs.Ytknimlpdpgpliaa
