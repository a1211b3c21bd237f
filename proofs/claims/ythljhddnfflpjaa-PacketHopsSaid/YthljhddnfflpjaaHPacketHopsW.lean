/- The walk of PacketHops. By the verifier's side. -/
import Derived.Test.YthljhddnfflpjaaHCfZ
import Derived.Test.YthljhddnfflpjaaHHp1PkW
import Derived.Test.YthljhddnfflpjaaHHpU
import Derived.Test.YthljhddnfflpjaaHKeepH
import Derived.Test.YthljhddnfflpjaaHKeepT
import Derived.Test.YthljhddnfflpjaaHCurTNum
import Derived.Test.YthljhddnfflpjaaHDevH
namespace Go.Proofs.Ythljhddnfflpjaa
open Go.RowKit
set_option linter.unusedSimpArgs false
set_option linter.unusedVariables false

theorem ok7 {zs : List Int} {p : Nat} {inc : Int} (h : OkCur 3 zs p inc) : OkCur 7 zs p inc :=
  ⟨h.good, by have := h.few; omega, h.p8, h.slow, fun hf => by obtain ⟨c, hc⟩ := h.twelve hf; exact ⟨c, hc.mono (by omega)⟩, h.inc, h.val, h.div⟩
theorem sameB_selfH (zs : List Int) (p inc : Int) : sameB zs p inc zs p inc = true := by unfold sameB; simp

theorem rsum_day15 (a1 : Option Addr) (n1 cap1 : Nat) (z1 : List Int) (p1 : Nat) (i1 : Int) (g1 : Good z1 p1 i1) (a2 : Option Addr) (n2 cap2 : Nat) (z2 : List Int) (p2 : Nat) (i2 : Int) (g2 : Good z2 p2 i2) (h1 : Day (eC z1 p1 i1)) (h2 : Day (eC z2 p2 i2))
    (w : World) (r1 : RowZ w a1 n1 cap1 z1) (r2 : RowZ w a2 n2 cap2 z2) : Calls Try.prog 77 #[curV a1 n1 cap1 p1 i1, curV a2 n2 cap2 p2 i2] w (GivesE (eSum z1 p1 i1 z2 p2 i2) w) := by
  obtain ⟨L, hL, hl⟩ := lcm_day g1 g2 h1 h2
  exact rsum_ok a1 n1 cap1 z1 p1 i1 g1 a2 n2 cap2 z2 p2 i2 g2 L hl hL w r1 r2

set_option maxRecDepth 100000 in
set_option maxHeartbeats 12800000 in
theorem packetHops_walk (W : World) (a : Option Addr) (n cap : Nat) (hrow : RowAt W a n cap) :
    Calls Try.prog 8 #[.slice a n cap] W fun e w' => e = .returned (.bool true) ∧ Below W.heap.size W w' := by
  have HR := Lib.hid hrow
  clear hrow
  go_enter Try.func8, Try.ntmps8
  go_wp2_with fail
  refine (new_any a n cap _ HR.out).mono ?_
  rintro e ww1 ⟨rfl, hb1, hz1', ra, rn, rc, hs1⟩
  have HB1 := Lib.hid hb1
  have HS1 := Lib.hid hs1
  have hbl : W.heap.size < ww1.heap.size := by omega
  clear hb1 hz1' hs1
  go_wp2_with fail
  refine (curveH_any 7 (by omega) (by omega) _ ra rn rc _ HS1.out).mono ?_
  rintro e ww2 ⟨af, nf, cf, zf, pf, jf, rfl, hs2, he2, hr2, ok2, hx2⟩
  have HS2 := Lib.hid hs2
  have HH2 := Lib.hid ((Hld13.start HS1.out).call hs2 he2)
  have OF := Lib.hid ok2
  have RF := Lib.hid hr2
  have XF := Lib.hid (show ∀ x, af = some x → x.block ≠ W.heap.size from fun x hx => by have := hx2 x hx; omega)
  clear hs2 he2 hr2 ok2 hx2
  go_wp2_with fail
  refine (n_any 20 (by omega) (by omega) _ ra rn rc _ HS2.out).mono ?_
  rintro e ww3 ⟨z3, ⟨z30, z31⟩, rfl, hs3, he3⟩
  have HH3 := Lib.hid (HH2.out.call hs3 he3.apart)
  have RF3 := Lib.hid (RF.out.apart he3.apart XF.out)
  clear hs3 he3 HH2 HS2 RF
  obtain ⟨m, hm⟩ : ∃ m, 1 + z3 = m := ⟨_, rfl⟩
  have hm1 : 1 ≤ m ∧ m ≤ 20 := by omega
  obtain ⟨m1, m2⟩ := hm1
  have hwm : IntKind.i64.wrap m = m := IntWalk.i64_in _ ⟨by omega, by omega⟩
  have hwm2 : IntKind.i64.wrap (1 + z3) = m := by rw [hm]; exact hwm
  have HMM := Lib.hid hm
  go_upto_region 3 with fail
  try rw [HMM.out]
  obtain ⟨u1, hu1⟩ : ∃ V, ww3.alloc (.cells #[.slice af nf cf, .int .i64 pf, .int .i64 jf] 24) = V := ⟨_, rfl⟩
  have hba : Below ww3.heap.size ww3 u1 := by rw [← hu1]; exact (Below.refl _ _).alloc (Nat.le_refl _) _
  have F1 := Lib.hid (show Hbx W.heap.size u1 ww3.heap.size af nf cf pf jf zf by rw [← hu1]; exact Hbx.new RF3.out HH3.out.lt XF.out)
  have S1 := Lib.hid (hldZ_below HH3.out hba)
  rw [hu1]
  clear hu1 hba HH3 RF3 XF hm hwm2 z30 z31
  obtain ⟨Bf, hBf⟩ : ∃ B, ww3.heap.size = B := ⟨_, rfl⟩
  rw [hBf] at F1 ⊢
  clear hBf
  have hmr : 1 ≤ m ∧ m ≤ 1500 := by omega
  have GF := Lib.hid OF.out.1.good
  -- g: the sum with another drawn curve
  go_cut [6, 7] (fun s6 s7 wx => ∃ (Bg : Nat) (ag : Option Addr) (ng cg : Nat) (zg : List Int) (pg : Nat) (jg : Int), s6 = .pointer (some ⟨Bg, 0, none⟩) ∧ s7 = .int .i64 0 ∧ Hid (Good zg pg jg ∧ ∀ t, ole (eC zf pf jf t) (eC zg pg jg t)) ∧ Hid (Hbx W.heap.size wx Bf af nf cf pf jf zf ∧ Hbx W.heap.size wx Bg ag ng cg pg jg zg ∧ Hld13 ww1 W.heap.size ra rn rc wx))
  case first =>
    have F0 := Lib.hid (F1.out.call (Below.refl _ u1).drew)
    have S0 := Lib.hid (hldZ_below S1.out (Below.refl _ u1).drew)
    refine wp_region_keeps (fun u => u.cell? ⟨Bf, 0, none⟩ = some (.slice af nf cf) ∧ u.cell? ⟨Bf, 1, none⟩ = some (.int .i64 pf) ∧ u.cell? ⟨Bf, 2, none⟩ = some (.int .i64 jf)) 9 1 (by kernel_rfl) (by kernel_rfl) (Hbx.cells F0.out) (fun hHeld0 => ?_)
    refine wpAnyK_take (i := 0) (v := ?_) rfl (by kernel_rfl) (fun _ _ _ h => h) (Or.inl ⟨by rfl, ?_⟩) (by assumption) ?_
    rotate_left
    · (intro w hSw; (try dsimp only at hSw); go_simp; try with_reducible rfl)
    try simp only [Act.put, List.getElem_toArray, List.getElem_cons_zero, List.getElem_cons_succ, List.setIfInBounds_toArray, List.set_cons_zero, List.set_cons_succ]
    refine wpAnyK_take (i := 1) (v := ?_) rfl (by kernel_rfl) (fun _ _ _ h => h) (Or.inl ⟨by rfl, ?_⟩) (by assumption) ?_
    rotate_left
    · (intro w hSw; (try dsimp only at hSw); go_simp; try with_reducible rfl)
    try simp only [Act.put, List.getElem_toArray, List.getElem_cons_zero, List.getElem_cons_succ, List.setIfInBounds_toArray, List.set_cons_zero, List.set_cons_succ]
    refine wpAnyK_two (i := 2) (j := 7) rfl rfl (by kernel_rfl) (fun K hK => ?_) (fun K hK => ?_)
    · go_simp
      refine (curve_any 3 (by omega) (by omega) _ ra rn rc _ (S0.out.at HS1.out)).mono ?_
      rintro e x1 ⟨ad, nd, cd, zd, pd, jd, rfl, hs1, he1, hr1, ok1, hx1⟩
      have OD := Lib.hid ok1
      have RD := Lib.hid hr1
      have F1 := Lib.hid (F0.out.take he1)
      have S1 := Lib.hid (S0.out.call hs1 he1)
      clear hs1 he1 hr1 ok1 hx1
      refine hK.out _ _ (Hbx.cells F1.out) (fun hHeld1 => ?_)
      clear hK K hHeld0
      try simp only [Act.put, List.getElem_toArray, List.getElem_cons_zero, List.getElem_cons_succ, List.setIfInBounds_toArray, List.set_cons_zero, List.set_cons_succ]
      refine wpAnyK_two (i := 3) (j := 7) rfl rfl (by kernel_rfl) (fun K hK => ?_) (fun K hK => ?_)
      · go_simp
        refine (rsum_day15 af nf cf zf pf jf GF.out ad nd cd zd pd jd OD.out.good (day_drawn OF.out.1) (day_drawn OD.out) _ F1.out.row RD.out).mono ?_
        intro e x2 hg2
        obtain ⟨ag, ng, cg, zg, pg, jg, rfl, hb2, hr2, hf2, hx2⟩ := GivesE.ok (sum_can (most := 7) OF.out.1 (ok7 OD.out) (by omega)) hg2
        clear hg2
        have FG := Lib.hid hf2
        have RG := Lib.hid hr2
        have XG := Lib.hid (show ∀ x, ag = some x → x.block ≠ W.heap.size from fun x hx => by have := hx2 x hx; have := S1.out.lt; omega)
        have F2 := Lib.hid (F1.out.call hb2)
        have S2 := Lib.hid (hldZ_below S1.out hb2)
        have RD2 := Lib.hid (RD.out.under hb2)
        clear hb2 hr2 hf2 hx2
        refine hK.out _ _ (Hbx.cells F2.out) (fun hHeld2 => ?_)
        clear hK K hHeld1
        try simp only [Act.put, List.getElem_toArray, List.getElem_cons_zero, List.getElem_cons_succ, List.setIfInBounds_toArray, List.set_cons_zero, List.set_cons_succ]
        refine wpAnyK_take (i := 4) (v := ?_) rfl (by kernel_rfl) (fun _ _ _ h => h) (Or.inl ⟨by rfl, ?_⟩) (by assumption) ?_
        rotate_left
        · (intro w hSw; (try dsimp only at hSw); go_simp; try with_reducible rfl)
        try simp only [Act.put, List.getElem_toArray, List.getElem_cons_zero, List.getElem_cons_succ, List.setIfInBounds_toArray, List.set_cons_zero, List.set_cons_succ]
        refine wpAnyK_take (i := 5) (v := ?_) rfl (by kernel_rfl) (fun _ _ _ h => h) (Or.inl ⟨by rfl, ?_⟩) (by assumption) ?_
        rotate_left
        · (intro w hSw; (try dsimp only at hSw); go_simp; try with_reducible rfl)
        try simp only [Act.put, List.getElem_toArray, List.getElem_cons_zero, List.getElem_cons_succ, List.setIfInBounds_toArray, List.set_cons_zero, List.set_cons_succ]
        refine wpAnyK_take (i := 6) (v := ?_) rfl (by kernel_rfl) (fun _ _ _ h => h) (Or.inl ⟨by rfl, ?_⟩) (by assumption) ?_
        rotate_left
        · (intro w hSw; (try dsimp only at hSw); go_simp; try with_reducible rfl)
        try simp only [Act.put, List.getElem_toArray, List.getElem_cons_zero, List.getElem_cons_succ, List.setIfInBounds_toArray, List.set_cons_zero, List.set_cons_succ]
        refine wpAnyK_step (i := 7) rfl (by kernel_rfl) (fun K hK => ?_)
        go_simp
        obtain ⟨x3, hv3⟩ : ∃ V, x2.alloc (.cells #[.slice none 0 0, .int .i64 0, .int .i64 0] 24) = V := ⟨_, rfl⟩
        have hb3 : Below x2.heap.size x2 x3 := by rw [← hv3]; exact (Below.refl x2.heap.size x2).alloc (Nat.le_refl _) _
        have ZN := Lib.hid (show Cur3 x3 x2.heap.size (.slice none 0 0) (.int .i64 0) (.int .i64 0) by rw [← hv3]; exact Cur3.new x2 _ _ _ 24)
        have HGN := Lib.hid (show x2.heap.size ≠ W.heap.size from by have : W.heap.size < x2.heap.size := S2.out.lt; omega)
        have HGF := Lib.hid (show Bf ≠ x2.heap.size ∧ ∀ x, af = some x → 1 ≤ nf → x.block ≠ x2.heap.size from ⟨by have : Bf < x2.heap.size := F2.out.box.lt; omega, fun x hx h1 => by have : x.block < x2.heap.size := rowZ_ltH F2.out.row x hx h1; omega⟩)
        have HGW := Lib.hid (show ww1.heap.size ≤ x2.heap.size from S2.out.ap.size)
        have HGG := Lib.hid (show ∀ x, ag = some x → 1 ≤ ng → x.block ≠ x2.heap.size from fun x hx h1 => by have := rowZ_ltH RG.out x hx h1; omega)
        rw [hv3]
        clear hv3
        have F3 := Lib.hid (F2.out.call hb3)
        have S3 := Lib.hid (hldZ_below S2.out hb3)
        have RD3 := Lib.hid (RD2.out.under hb3)
        have RG3 := Lib.hid (RG.out.under hb3)
        clear hb3
        refine hK.out _ _ (Hbx.cells F3.out) (fun hHeld3 => ?_)
        clear hK K hHeld2
        try simp only [Act.put, List.getElem_toArray, List.getElem_cons_zero, List.getElem_cons_succ, List.setIfInBounds_toArray, List.set_cons_zero, List.set_cons_succ]
        have FL := Lib.hid (F3.out.lay HGF.out.1 HGF.out.2 (.slice ag ng cg) (.int .i64 pg) (.int .i64 jg))
        have GP := Lib.hid (Hbx.put (p := (pg : Int)) (j := jg) ZN.out RG3.out HGN.out HGG.out XG.out)
        have SP := Lib.hid (((S3.out.set hbl (p := ⟨x2.heap.size, 0, none⟩) HGW.out (.slice ag ng cg)).set hbl (p := ⟨x2.heap.size, 1, none⟩) HGW.out (.int .i64 pg)).set hbl (p := ⟨x2.heap.size, 2, none⟩) HGW.out (.int .i64 jg))
        obtain ⟨q0, q1, q2, q3, q4, q5⟩ := ZN.out
        refine wpAnyK_step (i := 8) rfl (by kernel_rfl) (fun K hK => ?_)
        go_simp
        refine hK.out _ _ (Hbx.cells FL.out) (fun hHeldZ => ?_)
        clear hK K hHeld3
        try simp only [Act.put, List.getElem_toArray, List.getElem_cons_zero, List.getElem_cons_succ, List.setIfInBounds_toArray, List.set_cons_zero, List.set_cons_succ]
        refine wpAnyK_done (by kernel_rfl) ?_
        simp only [List.drop_succ_cons, List.drop_zero]
        clear hHeldZ q0 q1 q2 q3 q4 q5
        go_wp2_with fail
        go_meet
        case rel => exact ⟨_, ag, ng, cg, zg, pg, jg, rfl, rfl, Lib.hid ⟨FG.out.1, fun t => sum_ole OD.out.good FG.out.2.1 t⟩, Lib.hid ⟨FL.out, GP.out, SP.out⟩⟩
      · go_simp
        obtain ⟨x2, hv2⟩ : ∃ V, x1.alloc (.cells #[.slice none 0 0, .int .i64 0, .int .i64 0] 24) = V := ⟨_, rfl⟩
        have hb2 : Below x1.heap.size x1 x2 := by rw [← hv2]; exact (Below.refl x1.heap.size x1).alloc (Nat.le_refl _) _
        have ZN := Lib.hid (show Cur3 x2 x1.heap.size (.slice none 0 0) (.int .i64 0) (.int .i64 0) by rw [← hv2]; exact Cur3.new x1 _ _ _ 24)
        have HGN := Lib.hid (show x1.heap.size ≠ W.heap.size from by have : W.heap.size < x1.heap.size := S1.out.lt; omega)
        have HGF := Lib.hid (show Bf ≠ x1.heap.size ∧ ∀ x, af = some x → 1 ≤ nf → x.block ≠ x1.heap.size from ⟨by have : Bf < x1.heap.size := F1.out.box.lt; omega, fun x hx h1 => by have : x.block < x1.heap.size := rowZ_ltH F1.out.row x hx h1; omega⟩)
        have HGW := Lib.hid (show ww1.heap.size ≤ x1.heap.size from S1.out.ap.size)
        have HGL := Lib.hid (show x1.heap.size < x2.heap.size from by rw [← hv2]; simp)
        rw [hv2]
        clear hv2
        have F2 := Lib.hid (F1.out.call hb2)
        have S2 := Lib.hid (hldZ_below S1.out hb2)
        have RD2 := Lib.hid (RD.out.under hb2)
        clear hb2
        refine hK.out _ _ (Hbx.cells F2.out) (fun hHeld2 => ?_)
        clear hK K hHeld1
        try simp only [Act.put, List.getElem_toArray, List.getElem_cons_zero, List.getElem_cons_succ, List.setIfInBounds_toArray, List.set_cons_zero, List.set_cons_succ]
        refine wpAnyK_step (i := 3) rfl (by kernel_rfl) (fun K hK => ?_)
        go_simp
        refine (rsum_day15 af nf cf zf pf jf GF.out ad nd cd zd pd jd OD.out.good (day_drawn OF.out.1) (day_drawn OD.out) _ F2.out.row RD2.out).mono ?_
        intro e x3 hg3
        obtain ⟨ag, ng, cg, zg, pg, jg, rfl, hb3, hr3, hf3, hx3⟩ := GivesE.ok (sum_can (most := 7) OF.out.1 (ok7 OD.out) (by omega)) hg3
        clear hg3
        have FG := Lib.hid hf3
        have RG := Lib.hid hr3
        have XG := Lib.hid (show ∀ x, ag = some x → x.block ≠ W.heap.size from fun x hx => by have := hx3 x hx; have := S2.out.lt; omega)
        have HGG := Lib.hid (show ∀ x, ag = some x → 1 ≤ ng → x.block ≠ x1.heap.size from fun x hx h1 => by have := hx3 x hx; have := HGL.out; omega)
        have F3 := Lib.hid (F2.out.call hb3)
        have S3 := Lib.hid (hldZ_below S2.out hb3)
        have RD3 := Lib.hid (RD2.out.under hb3)
        have ZN3 := Lib.hid (ZN.out.below hb3)
        clear hb3 hr3 hf3 hx3
        refine hK.out _ _ (Hbx.cells F3.out) (fun hHeld3 => ?_)
        clear hK K hHeld2
        try simp only [Act.put, List.getElem_toArray, List.getElem_cons_zero, List.getElem_cons_succ, List.setIfInBounds_toArray, List.set_cons_zero, List.set_cons_succ]
        refine wpAnyK_take (i := 4) (v := ?_) rfl (by kernel_rfl) (fun _ _ _ h => h) (Or.inl ⟨by rfl, ?_⟩) (by assumption) ?_
        rotate_left
        · (intro w hSw; (try dsimp only at hSw); go_simp; try with_reducible rfl)
        try simp only [Act.put, List.getElem_toArray, List.getElem_cons_zero, List.getElem_cons_succ, List.setIfInBounds_toArray, List.set_cons_zero, List.set_cons_succ]
        refine wpAnyK_take (i := 5) (v := ?_) rfl (by kernel_rfl) (fun _ _ _ h => h) (Or.inl ⟨by rfl, ?_⟩) (by assumption) ?_
        rotate_left
        · (intro w hSw; (try dsimp only at hSw); go_simp; try with_reducible rfl)
        try simp only [Act.put, List.getElem_toArray, List.getElem_cons_zero, List.getElem_cons_succ, List.setIfInBounds_toArray, List.set_cons_zero, List.set_cons_succ]
        refine wpAnyK_take (i := 6) (v := ?_) rfl (by kernel_rfl) (fun _ _ _ h => h) (Or.inl ⟨by rfl, ?_⟩) (by assumption) ?_
        rotate_left
        · (intro w hSw; (try dsimp only at hSw); go_simp; try with_reducible rfl)
        try simp only [Act.put, List.getElem_toArray, List.getElem_cons_zero, List.getElem_cons_succ, List.setIfInBounds_toArray, List.set_cons_zero, List.set_cons_succ]
        have FL := Lib.hid (F3.out.lay HGF.out.1 HGF.out.2 (.slice ag ng cg) (.int .i64 pg) (.int .i64 jg))
        have GP := Lib.hid (Hbx.put (p := (pg : Int)) (j := jg) ZN3.out RG.out HGN.out HGG.out XG.out)
        have SP := Lib.hid (((S3.out.set hbl (p := ⟨x1.heap.size, 0, none⟩) HGW.out (.slice ag ng cg)).set hbl (p := ⟨x1.heap.size, 1, none⟩) HGW.out (.int .i64 pg)).set hbl (p := ⟨x1.heap.size, 2, none⟩) HGW.out (.int .i64 jg))
        obtain ⟨q0, q1, q2, q3, q4, q5⟩ := ZN3.out
        refine wpAnyK_step (i := 8) rfl (by kernel_rfl) (fun K hK => ?_)
        go_simp
        refine hK.out _ _ (Hbx.cells FL.out) (fun hHeldZ => ?_)
        clear hK K hHeld3
        try simp only [Act.put, List.getElem_toArray, List.getElem_cons_zero, List.getElem_cons_succ, List.setIfInBounds_toArray, List.set_cons_zero, List.set_cons_succ]
        refine wpAnyK_done (by kernel_rfl) ?_
        simp only [List.drop_succ_cons, List.drop_zero]
        clear hHeldZ q0 q1 q2 q3 q4 q5
        go_wp2_with fail
        go_meet
        case rel => exact ⟨_, ag, ng, cg, zg, pg, jg, rfl, rfl, Lib.hid ⟨FG.out.1, fun t => sum_ole OD.out.good FG.out.2.1 t⟩, Lib.hid ⟨FL.out, GP.out, SP.out⟩⟩
    · go_simp
      obtain ⟨x1, hv1⟩ : ∃ V, (u1.alloc (.cells #[.slice none 0 0, .int .i64 0, .int .i64 0] 24)).drew = V := ⟨_, rfl⟩
      have hb1 : Below u1.drew.heap.size u1.drew x1 := by rw [← hv1]; exact (Below.refl u1.drew.heap.size u1.drew).alloc (Nat.le_refl _) _
      have ZN := Lib.hid (show Cur3 x1 u1.heap.size (.slice none 0 0) (.int .i64 0) (.int .i64 0) by rw [← hv1]; exact Cur3.new u1.drew _ _ _ 24)
      have HGN := Lib.hid (show u1.heap.size ≠ W.heap.size from by have : W.heap.size < u1.heap.size := S0.out.lt; omega)
      have HGF := Lib.hid (show Bf ≠ u1.heap.size ∧ ∀ x, af = some x → 1 ≤ nf → x.block ≠ u1.heap.size from ⟨by have : Bf < u1.heap.size := F0.out.box.lt; omega, fun x hx h1 => by have : x.block < u1.heap.size := rowZ_ltH F0.out.row x hx h1; omega⟩)
      have HGW := Lib.hid (show ww1.heap.size ≤ u1.heap.size from S0.out.ap.size)
      have HGL := Lib.hid (show u1.heap.size < x1.heap.size from by rw [← hv1]; simp)
      rw [hv1]
      clear hv1
      have F1 := Lib.hid (F0.out.call hb1)
      have S1 := Lib.hid (hldZ_below S0.out hb1)
      clear hb1
      refine hK.out _ _ (Hbx.cells F1.out) (fun hHeld1 => ?_)
      clear hK K hHeld0
      try simp only [Act.put, List.getElem_toArray, List.getElem_cons_zero, List.getElem_cons_succ, List.setIfInBounds_toArray, List.set_cons_zero, List.set_cons_succ]
      refine wpAnyK_step (i := 2) rfl (by kernel_rfl) (fun K hK => ?_)
      go_simp
      refine (curve_any 3 (by omega) (by omega) _ ra rn rc _ (S1.out.at HS1.out)).mono ?_
      rintro e x2 ⟨ad, nd, cd, zd, pd, jd, rfl, hs2, he2, hr2, ok2, hx2⟩
      have OD := Lib.hid ok2
      have RD := Lib.hid hr2
      have HGL := Lib.hid (show u1.heap.size < x2.heap.size from Nat.lt_of_lt_of_le HGL.out he2.size)
      have F2 := Lib.hid (F1.out.take he2)
      have S2 := Lib.hid (S1.out.call hs2 he2)
      have ZN2 := Lib.hid (ZN.out.apart he2 HGN.out)
      clear hs2 he2 hr2 ok2 hx2
      refine hK.out _ _ (Hbx.cells F2.out) (fun hHeld2 => ?_)
      clear hK K hHeld1
      try simp only [Act.put, List.getElem_toArray, List.getElem_cons_zero, List.getElem_cons_succ, List.setIfInBounds_toArray, List.set_cons_zero, List.set_cons_succ]
      refine wpAnyK_step (i := 3) rfl (by kernel_rfl) (fun K hK => ?_)
      go_simp
      refine (rsum_day15 af nf cf zf pf jf GF.out ad nd cd zd pd jd OD.out.good (day_drawn OF.out.1) (day_drawn OD.out) _ F2.out.row RD.out).mono ?_
      intro e x3 hg3
      obtain ⟨ag, ng, cg, zg, pg, jg, rfl, hb3, hr3, hf3, hx3⟩ := GivesE.ok (sum_can (most := 7) OF.out.1 (ok7 OD.out) (by omega)) hg3
      clear hg3
      have FG := Lib.hid hf3
      have RG := Lib.hid hr3
      have XG := Lib.hid (show ∀ x, ag = some x → x.block ≠ W.heap.size from fun x hx => by have := hx3 x hx; have := S2.out.lt; omega)
      have HGG := Lib.hid (show ∀ x, ag = some x → 1 ≤ ng → x.block ≠ u1.heap.size from fun x hx h1 => by have := hx3 x hx; have := HGL.out; omega)
      have F3 := Lib.hid (F2.out.call hb3)
      have S3 := Lib.hid (hldZ_below S2.out hb3)
      have ZN3 := Lib.hid (ZN2.out.below hb3)
      have RD3 := Lib.hid (RD.out.under hb3)
      clear hb3 hr3 hf3 hx3
      refine hK.out _ _ (Hbx.cells F3.out) (fun hHeld3 => ?_)
      clear hK K hHeld2
      try simp only [Act.put, List.getElem_toArray, List.getElem_cons_zero, List.getElem_cons_succ, List.setIfInBounds_toArray, List.set_cons_zero, List.set_cons_succ]
      refine wpAnyK_take (i := 4) (v := ?_) rfl (by kernel_rfl) (fun _ _ _ h => h) (Or.inl ⟨by rfl, ?_⟩) (by assumption) ?_
      rotate_left
      · (intro w hSw; (try dsimp only at hSw); go_simp; try with_reducible rfl)
      try simp only [Act.put, List.getElem_toArray, List.getElem_cons_zero, List.getElem_cons_succ, List.setIfInBounds_toArray, List.set_cons_zero, List.set_cons_succ]
      refine wpAnyK_take (i := 5) (v := ?_) rfl (by kernel_rfl) (fun _ _ _ h => h) (Or.inl ⟨by rfl, ?_⟩) (by assumption) ?_
      rotate_left
      · (intro w hSw; (try dsimp only at hSw); go_simp; try with_reducible rfl)
      try simp only [Act.put, List.getElem_toArray, List.getElem_cons_zero, List.getElem_cons_succ, List.setIfInBounds_toArray, List.set_cons_zero, List.set_cons_succ]
      refine wpAnyK_take (i := 6) (v := ?_) rfl (by kernel_rfl) (fun _ _ _ h => h) (Or.inl ⟨by rfl, ?_⟩) (by assumption) ?_
      rotate_left
      · (intro w hSw; (try dsimp only at hSw); go_simp; try with_reducible rfl)
      try simp only [Act.put, List.getElem_toArray, List.getElem_cons_zero, List.getElem_cons_succ, List.setIfInBounds_toArray, List.set_cons_zero, List.set_cons_succ]
      have FL := Lib.hid (F3.out.lay HGF.out.1 HGF.out.2 (.slice ag ng cg) (.int .i64 pg) (.int .i64 jg))
      have GP := Lib.hid (Hbx.put (p := (pg : Int)) (j := jg) ZN3.out RG.out HGN.out HGG.out XG.out)
      have SP := Lib.hid (((S3.out.set hbl (p := ⟨u1.heap.size, 0, none⟩) HGW.out (.slice ag ng cg)).set hbl (p := ⟨u1.heap.size, 1, none⟩) HGW.out (.int .i64 pg)).set hbl (p := ⟨u1.heap.size, 2, none⟩) HGW.out (.int .i64 jg))
      obtain ⟨q0, q1, q2, q3, q4, q5⟩ := ZN3.out
      refine wpAnyK_step (i := 8) rfl (by kernel_rfl) (fun K hK => ?_)
      go_simp
      refine hK.out _ _ (Hbx.cells FL.out) (fun hHeldZ => ?_)
      clear hK K hHeld3
      try simp only [Act.put, List.getElem_toArray, List.getElem_cons_zero, List.getElem_cons_succ, List.setIfInBounds_toArray, List.set_cons_zero, List.set_cons_succ]
      refine wpAnyK_done (by kernel_rfl) ?_
      simp only [List.drop_succ_cons, List.drop_zero]
      clear hHeldZ q0 q1 q2 q3 q4 q5
      go_wp2_with fail
      go_meet
      case rel => exact ⟨_, ag, ng, cg, zg, pg, jg, rfl, rfl, Lib.hid ⟨FG.out.1, fun t => sum_ole OD.out.good FG.out.2.1 t⟩, Lib.hid ⟨FL.out, GP.out, SP.out⟩⟩
  case rest =>
  obtain ⟨Bg, ag, ng, cg, zg, pg, jg, rfl, rfl, HG, HC⟩ := hcut
  obtain ⟨u2, rfl⟩ : ∃ u : World, u = wc := ⟨_, rfl⟩
  clear F1 S1
  have F := Lib.hid HC.out.1
  have G := Lib.hid HC.out.2.1
  have S := Lib.hid HC.out.2.2
  clear HC
  obtain ⟨x0, x1, x2⟩ := Hbx.cells F.out
  go_wp2_with fail
  clear x0 x1 x2
  refine ((hop15_ok af nf cf zf pf jf GF.out m hmr _ F.out.row).mono fun _ _ h => h.hp).mono ?_
  rintro e v9 ⟨aa, na, ca, za, pa, ja, ea, rfl, hb9, hr9, h9, hx9⟩
  have HA := Lib.hid h9
  have X9 := Lib.hid (show ∀ x, aa = some x → x.block ≠ W.heap.size from fun x hx => by have := hx9 x hx; have := S.out.lt; omega)
  have R9 := Lib.hid hr9
  have F21 := Lib.hid (F.out.call hb9)
  clear F
  have G21 := Lib.hid (G.out.call hb9)
  clear G
  have S21 := Lib.hid (hldZ_below S.out hb9)
  clear S
  clear hb9 hr9 h9 hx9
  go_upto_region 5 with fail
  obtain ⟨u9, hu9⟩ : ∃ V, v9.alloc (.cells #[.slice aa na ca, .int .i64 pa, .int .i64 ja] 24) = V := ⟨_, rfl⟩
  have hb9 : Below v9.heap.size v9 u9 := by rw [← hu9]; exact (Below.refl _ _).alloc (Nat.le_refl _) _
  have A := Lib.hid (show Hbx W.heap.size u9 v9.heap.size aa na ca pa ja za by rw [← hu9]; exact Hbx.new R9.out S21.out.lt X9.out)
  have F22 := Lib.hid (F21.out.call hb9)
  clear F21
  have G22 := Lib.hid (G21.out.call hb9)
  clear G21
  have S22 := Lib.hid (hldZ_below S21.out hb9)
  clear S21
  rw [hu9]
  clear hu9 hb9 R9 X9
  obtain ⟨Ba, hB9⟩ : ∃ B, v9.heap.size = B := ⟨_, rfl⟩
  rw [hB9] at A ⊢
  clear hB9
  obtain ⟨w9, rfl⟩ : ∃ u : World, u = u9 := ⟨_, rfl⟩
  obtain ⟨x0, x1, x2⟩ := Hbx.cells G22.out
  go_wp2_with fail
  clear x0 x1 x2
  refine ((hop15_ok ag ng cg zg pg jg HG.out.1 m hmr _ G22.out.row).mono fun _ _ h => h.hp).mono ?_
  rintro e v9 ⟨ab, nb, cb, zb, pb, jb, eb, rfl, hb9, hr9, h9, hx9⟩
  have HB := Lib.hid h9
  have X9 := Lib.hid (show ∀ x, ab = some x → x.block ≠ W.heap.size from fun x hx => by have := hx9 x hx; have := S22.out.lt; omega)
  have R9 := Lib.hid hr9
  have F23 := Lib.hid (F22.out.call hb9)
  clear F22
  have G23 := Lib.hid (G22.out.call hb9)
  clear G22
  have S23 := Lib.hid (hldZ_below S22.out hb9)
  clear S22
  have A23 := Lib.hid (A.out.call hb9)
  clear A
  clear hb9 hr9 h9 hx9
  go_upto_region 6 with fail
  obtain ⟨u9, hu9⟩ : ∃ V, v9.alloc (.cells #[.slice ab nb cb, .int .i64 pb, .int .i64 jb] 24) = V := ⟨_, rfl⟩
  have hb9 : Below v9.heap.size v9 u9 := by rw [← hu9]; exact (Below.refl _ _).alloc (Nat.le_refl _) _
  have B := Lib.hid (show Hbx W.heap.size u9 v9.heap.size ab nb cb pb jb zb by rw [← hu9]; exact Hbx.new R9.out S23.out.lt X9.out)
  have F24 := Lib.hid (F23.out.call hb9)
  clear F23
  have G24 := Lib.hid (G23.out.call hb9)
  clear G23
  have S24 := Lib.hid (hldZ_below S23.out hb9)
  clear S23
  have A24 := Lib.hid (A23.out.call hb9)
  clear A23
  rw [hu9]
  clear hu9 hb9 R9 X9
  obtain ⟨Bb, hB9⟩ : ∃ B, v9.heap.size = B := ⟨_, rfl⟩
  rw [hB9] at B ⊢
  clear hB9
  obtain ⟨w9, rfl⟩ : ∃ u : World, u = u9 := ⟨_, rfl⟩
  -- more bytes a packet
  have G0 := Lib.hid (And.intro (F24.out.call (Below.refl _ w9).drew) (And.intro (G24.out.call (Below.refl _ w9).drew) (And.intro (A24.out.call (Below.refl _ w9).drew) (And.intro (B.out.call (Below.refl _ w9).drew) (hldZ_below S24.out (Below.refl _ w9).drew)))))
  clear F24 G24 A24 B S24
  go_cut [12, 13] (fun s12 s13 wx => ∃ (Bc : Nat) (ac : Option Addr) (nc cc : Nat) (zc : List Int) (pc jc ec mm : Int), s12 = .pointer (some ⟨Bc, 0, none⟩) ∧ s13 = .int .i64 ec ∧ Hid (m ≤ mm ∧ HpR (eHop (mm - 1) zf pf jf) zc pc jc ec) ∧ Hid (Hbx W.heap.size wx Bf af nf cf pf jf zf ∧ Hbx W.heap.size wx Bg ag ng cg pg jg zg ∧ Hbx W.heap.size wx Ba aa na ca pa ja za ∧ Hbx W.heap.size wx Bb ab nb cb pb jb zb ∧ Hbx W.heap.size wx Bc ac nc cc pc jc zc ∧ Hld13 ww1 W.heap.size ra rn rc wx))
  case first =>
    have F0 := Lib.hid G0.out.1
    have G1 := Lib.hid G0.out.2.1
    have A0 := Lib.hid G0.out.2.2.1
    have B0 := Lib.hid G0.out.2.2.2.1
    have S0 := Lib.hid G0.out.2.2.2.2
    refine wp_region_keeps (fun u => u.cell? ⟨Bf, 0, none⟩ = some (.slice af nf cf) ∧ u.cell? ⟨Bf, 1, none⟩ = some (.int .i64 pf) ∧ u.cell? ⟨Bf, 2, none⟩ = some (.int .i64 jf)) 11 1 (by kernel_rfl) (by kernel_rfl) (Hbx.cells F0.out) (fun hHeld0 => ?_)
    refine wpAnyK_take (i := 0) (v := ?_) rfl (by kernel_rfl) (fun _ _ _ h => h) (Or.inl ⟨by rfl, ?_⟩) (by assumption) ?_
    rotate_left
    · (intro w hSw; (try dsimp only at hSw); go_simp; try with_reducible rfl)
    try simp only [Act.put, List.getElem_toArray, List.getElem_cons_zero, List.getElem_cons_succ, List.setIfInBounds_toArray, List.set_cons_zero, List.set_cons_succ]
    refine wpAnyK_take (i := 1) (v := ?_) rfl (by kernel_rfl) (fun _ _ _ h => h) (Or.inl ⟨by rfl, ?_⟩) (by assumption) ?_
    rotate_left
    · (intro w hSw; (try dsimp only at hSw); go_simp; try with_reducible rfl)
    try simp only [Act.put, List.getElem_toArray, List.getElem_cons_zero, List.getElem_cons_succ, List.setIfInBounds_toArray, List.set_cons_zero, List.set_cons_succ]
    refine wpAnyK_take (i := 2) (v := ?_) rfl (by kernel_rfl) (fun _ _ _ h => h) (Or.inl ⟨by rfl, ?_⟩) (by assumption) ?_
    rotate_left
    · (intro w hSw; (try dsimp only at hSw); go_simp; try with_reducible rfl)
    try simp only [Act.put, List.getElem_toArray, List.getElem_cons_zero, List.getElem_cons_succ, List.setIfInBounds_toArray, List.set_cons_zero, List.set_cons_succ]
    refine wpAnyK_two (i := 3) (j := 9) rfl rfl (by kernel_rfl) (fun K hK => ?_) (fun K hK => ?_)
    · go_simp
      refine (n_any 9 (by omega) (by omega) _ ra rn rc _ (S0.out.at HS1.out)).mono ?_
      rintro e x1 ⟨z6, ⟨z60, z61⟩, rfl, hs1, hq1⟩
      have he1 := hq1.apart
      have hwz : IntKind.i64.wrap (m + z6) = m + z6 := IntWalk.i64_in _ ⟨by omega, by omega⟩
      have F1 := Lib.hid (F0.out.take he1)
      have G1 := Lib.hid (G1.out.take he1)
      have A1 := Lib.hid (A0.out.take he1)
      have B1 := Lib.hid (B0.out.take he1)
      have S1 := Lib.hid (S0.out.call hs1 he1)
      clear hs1 he1 hq1
      refine hK.out _ _ (Hbx.cells F1.out) (fun hHeld1 => ?_)
      clear hK K hHeld0
      try simp only [Act.put, List.getElem_toArray, List.getElem_cons_zero, List.getElem_cons_succ, List.setIfInBounds_toArray, List.set_cons_zero, List.set_cons_succ]
      refine wpAnyK_take (i := 4) (v := ?_) rfl (by kernel_rfl) (fun _ _ _ h => h) (Or.inl ⟨by rfl, ?_⟩) (by assumption) ?_
      rotate_left
      · (intro w hSw; (try dsimp only at hSw); go_simp; try with_reducible rfl)
      try simp only [Act.put, List.getElem_toArray, List.getElem_cons_zero, List.getElem_cons_succ, List.setIfInBounds_toArray, List.set_cons_zero, List.set_cons_succ]
      refine wpAnyK_two (i := 5) (j := 9) rfl rfl (by kernel_rfl) (fun K hK => ?_) (fun K hK => ?_)
      · go_simp
        refine ((hop15_ok af nf cf zf pf jf GF.out (m + z6) ⟨by omega, by omega⟩ _ F1.out.row).mono fun _ _ h => h.hp).mono ?_
        rintro e x2 ⟨ac, nc, cc, zc, pc, jc, ec, rfl, hb2, hr2, hh2, hx2⟩
        have FG := Lib.hid hh2
        have RG := Lib.hid hr2
        have XG := Lib.hid (show ∀ x, ac = some x → x.block ≠ W.heap.size from fun x hx => by have := hx2 x hx; have := S1.out.lt; omega)
        have F2 := Lib.hid (F1.out.call hb2)
        have G2 := Lib.hid (G1.out.call hb2)
        have A2 := Lib.hid (A1.out.call hb2)
        have B2 := Lib.hid (B1.out.call hb2)
        have S2 := Lib.hid (hldZ_below S1.out hb2)
        clear hb2 hr2 hh2 hx2
        refine hK.out _ _ (Hbx.cells F2.out) (fun hHeld2 => ?_)
        clear hK K hHeld1
        try simp only [Act.put, List.getElem_toArray, List.getElem_cons_zero, List.getElem_cons_succ, List.setIfInBounds_toArray, List.set_cons_zero, List.set_cons_succ]
        refine wpAnyK_take (i := 6) (v := ?_) rfl (by kernel_rfl) (fun _ _ _ h => h) (Or.inl ⟨by rfl, ?_⟩) (by assumption) ?_
        rotate_left
        · (intro w hSw; (try dsimp only at hSw); go_simp; try with_reducible rfl)
        try simp only [Act.put, List.getElem_toArray, List.getElem_cons_zero, List.getElem_cons_succ, List.setIfInBounds_toArray, List.set_cons_zero, List.set_cons_succ]
        refine wpAnyK_take (i := 7) (v := ?_) rfl (by kernel_rfl) (fun _ _ _ h => h) (Or.inl ⟨by rfl, ?_⟩) (by assumption) ?_
        rotate_left
        · (intro w hSw; (try dsimp only at hSw); go_simp; try with_reducible rfl)
        try simp only [Act.put, List.getElem_toArray, List.getElem_cons_zero, List.getElem_cons_succ, List.setIfInBounds_toArray, List.set_cons_zero, List.set_cons_succ]
        refine wpAnyK_take (i := 8) (v := ?_) rfl (by kernel_rfl) (fun _ _ _ h => h) (Or.inl ⟨by rfl, ?_⟩) (by assumption) ?_
        rotate_left
        · (intro w hSw; (try dsimp only at hSw); go_simp; try with_reducible rfl)
        try simp only [Act.put, List.getElem_toArray, List.getElem_cons_zero, List.getElem_cons_succ, List.setIfInBounds_toArray, List.set_cons_zero, List.set_cons_succ]
        refine wpAnyK_step (i := 9) rfl (by kernel_rfl) (fun K hK => ?_)
        go_simp
        obtain ⟨x3, hv3⟩ : ∃ V, x2.alloc (.cells #[.slice none 0 0, .int .i64 0, .int .i64 0] 24) = V := ⟨_, rfl⟩
        have hb3 : Below x2.heap.size x2 x3 := by rw [← hv3]; exact (Below.refl x2.heap.size x2).alloc (Nat.le_refl _) _
        have ZN := Lib.hid (show Cur3 x3 x2.heap.size (.slice none 0 0) (.int .i64 0) (.int .i64 0) by rw [← hv3]; exact Cur3.new x2 _ _ _ 24)
        have HGN := Lib.hid (show x2.heap.size ≠ W.heap.size from by have : W.heap.size < x2.heap.size := S2.out.lt; omega)
        have HQF := Lib.hid (show Bf ≠ x2.heap.size ∧ ∀ x, af = some x → 1 ≤ nf → x.block ≠ x2.heap.size from ⟨by have : Bf < x2.heap.size := F2.out.box.lt; omega, fun x hx h1 => by have : x.block < x2.heap.size := rowZ_ltH F2.out.row x hx h1; omega⟩)
        have HQG := Lib.hid (show Bg ≠ x2.heap.size ∧ ∀ x, ag = some x → 1 ≤ ng → x.block ≠ x2.heap.size from ⟨by have : Bg < x2.heap.size := G2.out.box.lt; omega, fun x hx h1 => by have : x.block < x2.heap.size := rowZ_ltH G2.out.row x hx h1; omega⟩)
        have HQA := Lib.hid (show Ba ≠ x2.heap.size ∧ ∀ x, aa = some x → 1 ≤ na → x.block ≠ x2.heap.size from ⟨by have : Ba < x2.heap.size := A2.out.box.lt; omega, fun x hx h1 => by have : x.block < x2.heap.size := rowZ_ltH A2.out.row x hx h1; omega⟩)
        have HQB := Lib.hid (show Bb ≠ x2.heap.size ∧ ∀ x, ab = some x → 1 ≤ nb → x.block ≠ x2.heap.size from ⟨by have : Bb < x2.heap.size := B2.out.box.lt; omega, fun x hx h1 => by have : x.block < x2.heap.size := rowZ_ltH B2.out.row x hx h1; omega⟩)
        have HGW := Lib.hid (show ww1.heap.size ≤ x2.heap.size from S2.out.ap.size)
        have HGG := Lib.hid (show ∀ x, ac = some x → 1 ≤ nc → x.block ≠ x2.heap.size from fun x hx h1 => by have := rowZ_ltH RG.out x hx h1; omega)
        rw [hv3]
        clear hv3
        have F3 := Lib.hid (F2.out.call hb3)
        have G3 := Lib.hid (G2.out.call hb3)
        have A3 := Lib.hid (A2.out.call hb3)
        have B3 := Lib.hid (B2.out.call hb3)
        have S3 := Lib.hid (hldZ_below S2.out hb3)
        have RG3 := Lib.hid (RG.out.under hb3)
        clear hb3
        refine hK.out _ _ (Hbx.cells F3.out) (fun hHeld3 => ?_)
        clear hK K hHeld2
        try simp only [Act.put, List.getElem_toArray, List.getElem_cons_zero, List.getElem_cons_succ, List.setIfInBounds_toArray, List.set_cons_zero, List.set_cons_succ]
        have LF := Lib.hid (F3.out.lay HQF.out.1 HQF.out.2 (.slice ac nc cc) (.int .i64 pc) (.int .i64 jc))
        have LG := Lib.hid (G3.out.lay HQG.out.1 HQG.out.2 (.slice ac nc cc) (.int .i64 pc) (.int .i64 jc))
        have LA := Lib.hid (A3.out.lay HQA.out.1 HQA.out.2 (.slice ac nc cc) (.int .i64 pc) (.int .i64 jc))
        have LB := Lib.hid (B3.out.lay HQB.out.1 HQB.out.2 (.slice ac nc cc) (.int .i64 pc) (.int .i64 jc))
        have GP := Lib.hid (Hbx.put (p := pc) (j := jc) ZN.out RG3.out HGN.out HGG.out XG.out)
        have SP := Lib.hid (((S3.out.set hbl (p := ⟨x2.heap.size, 0, none⟩) HGW.out (.slice ac nc cc)).set hbl (p := ⟨x2.heap.size, 1, none⟩) HGW.out (.int .i64 pc)).set hbl (p := ⟨x2.heap.size, 2, none⟩) HGW.out (.int .i64 jc))
        obtain ⟨q0, q1, q2, q3, q4, q5⟩ := ZN.out
        refine wpAnyK_step (i := 10) rfl (by kernel_rfl) (fun K hK => ?_)
        go_simp
        refine hK.out _ _ (Hbx.cells LF.out) (fun hHeldZ => ?_)
        clear hK K hHeld3
        try simp only [Act.put, List.getElem_toArray, List.getElem_cons_zero, List.getElem_cons_succ, List.setIfInBounds_toArray, List.set_cons_zero, List.set_cons_succ]
        refine wpAnyK_done (by kernel_rfl) ?_
        simp only [List.drop_succ_cons, List.drop_zero]
        clear hHeldZ q0 q1 q2 q3 q4 q5
        go_wp2_with fail
        go_meet
        case rel => exact ⟨_, ac, nc, cc, zc, pc, jc, ec, m + z6, rfl, rfl, Lib.hid ⟨by omega, FG.out⟩, Lib.hid ⟨LF.out, LG.out, LA.out, LB.out, GP.out, SP.out⟩⟩
      · go_simp
        obtain ⟨x2, hv2⟩ : ∃ V, x1.alloc (.cells #[.slice none 0 0, .int .i64 0, .int .i64 0] 24) = V := ⟨_, rfl⟩
        have hb2 : Below x1.heap.size x1 x2 := by rw [← hv2]; exact (Below.refl x1.heap.size x1).alloc (Nat.le_refl _) _
        have ZN := Lib.hid (show Cur3 x2 x1.heap.size (.slice none 0 0) (.int .i64 0) (.int .i64 0) by rw [← hv2]; exact Cur3.new x1 _ _ _ 24)
        have HGN := Lib.hid (show x1.heap.size ≠ W.heap.size from by have : W.heap.size < x1.heap.size := S1.out.lt; omega)
        have HQF := Lib.hid (show Bf ≠ x1.heap.size ∧ ∀ x, af = some x → 1 ≤ nf → x.block ≠ x1.heap.size from ⟨by have : Bf < x1.heap.size := F1.out.box.lt; omega, fun x hx h1 => by have : x.block < x1.heap.size := rowZ_ltH F1.out.row x hx h1; omega⟩)
        have HQG := Lib.hid (show Bg ≠ x1.heap.size ∧ ∀ x, ag = some x → 1 ≤ ng → x.block ≠ x1.heap.size from ⟨by have : Bg < x1.heap.size := G1.out.box.lt; omega, fun x hx h1 => by have : x.block < x1.heap.size := rowZ_ltH G1.out.row x hx h1; omega⟩)
        have HQA := Lib.hid (show Ba ≠ x1.heap.size ∧ ∀ x, aa = some x → 1 ≤ na → x.block ≠ x1.heap.size from ⟨by have : Ba < x1.heap.size := A1.out.box.lt; omega, fun x hx h1 => by have : x.block < x1.heap.size := rowZ_ltH A1.out.row x hx h1; omega⟩)
        have HQB := Lib.hid (show Bb ≠ x1.heap.size ∧ ∀ x, ab = some x → 1 ≤ nb → x.block ≠ x1.heap.size from ⟨by have : Bb < x1.heap.size := B1.out.box.lt; omega, fun x hx h1 => by have : x.block < x1.heap.size := rowZ_ltH B1.out.row x hx h1; omega⟩)
        have HGW := Lib.hid (show ww1.heap.size ≤ x1.heap.size from S1.out.ap.size)
        have HGL := Lib.hid (show x1.heap.size < x2.heap.size from by rw [← hv2]; simp)
        rw [hv2]
        clear hv2
        have F2 := Lib.hid (F1.out.call hb2)
        have G2 := Lib.hid (G1.out.call hb2)
        have A2 := Lib.hid (A1.out.call hb2)
        have B2 := Lib.hid (B1.out.call hb2)
        have S2 := Lib.hid (hldZ_below S1.out hb2)
        clear hb2
        refine hK.out _ _ (Hbx.cells F2.out) (fun hHeld2 => ?_)
        clear hK K hHeld1
        try simp only [Act.put, List.getElem_toArray, List.getElem_cons_zero, List.getElem_cons_succ, List.setIfInBounds_toArray, List.set_cons_zero, List.set_cons_succ]
        refine wpAnyK_step (i := 5) rfl (by kernel_rfl) (fun K hK => ?_)
        go_simp
        refine ((hop15_ok af nf cf zf pf jf GF.out (m + z6) ⟨by omega, by omega⟩ _ F2.out.row).mono fun _ _ h => h.hp).mono ?_
        rintro e x3 ⟨ac, nc, cc, zc, pc, jc, ec, rfl, hb3, hr3, hh3, hx3⟩
        have FG := Lib.hid hh3
        have RG := Lib.hid hr3
        have XG := Lib.hid (show ∀ x, ac = some x → x.block ≠ W.heap.size from fun x hx => by have := hx3 x hx; have := S2.out.lt; omega)
        have HGG := Lib.hid (show ∀ x, ac = some x → 1 ≤ nc → x.block ≠ x1.heap.size from fun x hx h1 => by have := hx3 x hx; have := HGL.out; omega)
        have F3 := Lib.hid (F2.out.call hb3)
        have G3 := Lib.hid (G2.out.call hb3)
        have A3 := Lib.hid (A2.out.call hb3)
        have B3 := Lib.hid (B2.out.call hb3)
        have S3 := Lib.hid (hldZ_below S2.out hb3)
        have ZN3 := Lib.hid (ZN.out.below hb3)
        clear hb3 hr3 hh3 hx3
        refine hK.out _ _ (Hbx.cells F3.out) (fun hHeld3 => ?_)
        clear hK K hHeld2
        try simp only [Act.put, List.getElem_toArray, List.getElem_cons_zero, List.getElem_cons_succ, List.setIfInBounds_toArray, List.set_cons_zero, List.set_cons_succ]
        refine wpAnyK_take (i := 6) (v := ?_) rfl (by kernel_rfl) (fun _ _ _ h => h) (Or.inl ⟨by rfl, ?_⟩) (by assumption) ?_
        rotate_left
        · (intro w hSw; (try dsimp only at hSw); go_simp; try with_reducible rfl)
        try simp only [Act.put, List.getElem_toArray, List.getElem_cons_zero, List.getElem_cons_succ, List.setIfInBounds_toArray, List.set_cons_zero, List.set_cons_succ]
        refine wpAnyK_take (i := 7) (v := ?_) rfl (by kernel_rfl) (fun _ _ _ h => h) (Or.inl ⟨by rfl, ?_⟩) (by assumption) ?_
        rotate_left
        · (intro w hSw; (try dsimp only at hSw); go_simp; try with_reducible rfl)
        try simp only [Act.put, List.getElem_toArray, List.getElem_cons_zero, List.getElem_cons_succ, List.setIfInBounds_toArray, List.set_cons_zero, List.set_cons_succ]
        refine wpAnyK_take (i := 8) (v := ?_) rfl (by kernel_rfl) (fun _ _ _ h => h) (Or.inl ⟨by rfl, ?_⟩) (by assumption) ?_
        rotate_left
        · (intro w hSw; (try dsimp only at hSw); go_simp; try with_reducible rfl)
        try simp only [Act.put, List.getElem_toArray, List.getElem_cons_zero, List.getElem_cons_succ, List.setIfInBounds_toArray, List.set_cons_zero, List.set_cons_succ]
        have LF := Lib.hid (F3.out.lay HQF.out.1 HQF.out.2 (.slice ac nc cc) (.int .i64 pc) (.int .i64 jc))
        have LG := Lib.hid (G3.out.lay HQG.out.1 HQG.out.2 (.slice ac nc cc) (.int .i64 pc) (.int .i64 jc))
        have LA := Lib.hid (A3.out.lay HQA.out.1 HQA.out.2 (.slice ac nc cc) (.int .i64 pc) (.int .i64 jc))
        have LB := Lib.hid (B3.out.lay HQB.out.1 HQB.out.2 (.slice ac nc cc) (.int .i64 pc) (.int .i64 jc))
        have GP := Lib.hid (Hbx.put (p := pc) (j := jc) ZN3.out RG.out HGN.out HGG.out XG.out)
        have SP := Lib.hid (((S3.out.set hbl (p := ⟨x1.heap.size, 0, none⟩) HGW.out (.slice ac nc cc)).set hbl (p := ⟨x1.heap.size, 1, none⟩) HGW.out (.int .i64 pc)).set hbl (p := ⟨x1.heap.size, 2, none⟩) HGW.out (.int .i64 jc))
        obtain ⟨q0, q1, q2, q3, q4, q5⟩ := ZN3.out
        refine wpAnyK_step (i := 10) rfl (by kernel_rfl) (fun K hK => ?_)
        go_simp
        refine hK.out _ _ (Hbx.cells LF.out) (fun hHeldZ => ?_)
        clear hK K hHeld3
        try simp only [Act.put, List.getElem_toArray, List.getElem_cons_zero, List.getElem_cons_succ, List.setIfInBounds_toArray, List.set_cons_zero, List.set_cons_succ]
        refine wpAnyK_done (by kernel_rfl) ?_
        simp only [List.drop_succ_cons, List.drop_zero]
        clear hHeldZ q0 q1 q2 q3 q4 q5
        go_wp2_with fail
        go_meet
        case rel => exact ⟨_, ac, nc, cc, zc, pc, jc, ec, m + z6, rfl, rfl, Lib.hid ⟨by omega, FG.out⟩, Lib.hid ⟨LF.out, LG.out, LA.out, LB.out, GP.out, SP.out⟩⟩
    · go_simp
      obtain ⟨x1, hv1⟩ : ∃ V, (w9.alloc (.cells #[.slice none 0 0, .int .i64 0, .int .i64 0] 24)).drew = V := ⟨_, rfl⟩
      have hb1 : Below w9.drew.heap.size w9.drew x1 := by rw [← hv1]; exact (Below.refl w9.drew.heap.size w9.drew).alloc (Nat.le_refl _) _
      have ZN := Lib.hid (show Cur3 x1 w9.heap.size (.slice none 0 0) (.int .i64 0) (.int .i64 0) by rw [← hv1]; exact Cur3.new w9.drew _ _ _ 24)
      have HGN := Lib.hid (show w9.heap.size ≠ W.heap.size from by have : W.heap.size < w9.heap.size := S0.out.lt; omega)
      have HQF := Lib.hid (show Bf ≠ w9.heap.size ∧ ∀ x, af = some x → 1 ≤ nf → x.block ≠ w9.heap.size from ⟨by have : Bf < w9.heap.size := F0.out.box.lt; omega, fun x hx h1 => by have : x.block < w9.heap.size := rowZ_ltH F0.out.row x hx h1; omega⟩)
      have HQG := Lib.hid (show Bg ≠ w9.heap.size ∧ ∀ x, ag = some x → 1 ≤ ng → x.block ≠ w9.heap.size from ⟨by have : Bg < w9.heap.size := G1.out.box.lt; omega, fun x hx h1 => by have : x.block < w9.heap.size := rowZ_ltH G1.out.row x hx h1; omega⟩)
      have HQA := Lib.hid (show Ba ≠ w9.heap.size ∧ ∀ x, aa = some x → 1 ≤ na → x.block ≠ w9.heap.size from ⟨by have : Ba < w9.heap.size := A0.out.box.lt; omega, fun x hx h1 => by have : x.block < w9.heap.size := rowZ_ltH A0.out.row x hx h1; omega⟩)
      have HQB := Lib.hid (show Bb ≠ w9.heap.size ∧ ∀ x, ab = some x → 1 ≤ nb → x.block ≠ w9.heap.size from ⟨by have : Bb < w9.heap.size := B0.out.box.lt; omega, fun x hx h1 => by have : x.block < w9.heap.size := rowZ_ltH B0.out.row x hx h1; omega⟩)
      have HGW := Lib.hid (show ww1.heap.size ≤ w9.heap.size from S0.out.ap.size)
      have HGL := Lib.hid (show w9.heap.size < x1.heap.size from by rw [← hv1]; simp)
      rw [hv1]
      clear hv1
      have F1 := Lib.hid (F0.out.call hb1)
      have G1 := Lib.hid (G1.out.call hb1)
      have A1 := Lib.hid (A0.out.call hb1)
      have B1 := Lib.hid (B0.out.call hb1)
      have S1 := Lib.hid (hldZ_below S0.out hb1)
      clear hb1
      refine hK.out _ _ (Hbx.cells F1.out) (fun hHeld1 => ?_)
      clear hK K hHeld0
      try simp only [Act.put, List.getElem_toArray, List.getElem_cons_zero, List.getElem_cons_succ, List.setIfInBounds_toArray, List.set_cons_zero, List.set_cons_succ]
      refine wpAnyK_step (i := 3) rfl (by kernel_rfl) (fun K hK => ?_)
      go_simp
      refine (n_any 9 (by omega) (by omega) _ ra rn rc _ (S1.out.at HS1.out)).mono ?_
      rintro e x2 ⟨z6, ⟨z60, z61⟩, rfl, hs2, hq2⟩
      have he2 := hq2.apart
      have hwz : IntKind.i64.wrap (m + z6) = m + z6 := IntWalk.i64_in _ ⟨by omega, by omega⟩
      have HGL := Lib.hid (show w9.heap.size < x2.heap.size from Nat.lt_of_lt_of_le HGL.out he2.size)
      have F2 := Lib.hid (F1.out.take he2)
      have G2 := Lib.hid (G1.out.take he2)
      have A2 := Lib.hid (A1.out.take he2)
      have B2 := Lib.hid (B1.out.take he2)
      have S2 := Lib.hid (S1.out.call hs2 he2)
      have ZN2 := Lib.hid (ZN.out.apart he2 HGN.out)
      clear hs2 he2 hq2
      refine hK.out _ _ (Hbx.cells F2.out) (fun hHeld2 => ?_)
      clear hK K hHeld1
      try simp only [Act.put, List.getElem_toArray, List.getElem_cons_zero, List.getElem_cons_succ, List.setIfInBounds_toArray, List.set_cons_zero, List.set_cons_succ]
      refine wpAnyK_take (i := 4) (v := ?_) rfl (by kernel_rfl) (fun _ _ _ h => h) (Or.inl ⟨by rfl, ?_⟩) (by assumption) ?_
      rotate_left
      · (intro w hSw; (try dsimp only at hSw); go_simp; try with_reducible rfl)
      try simp only [Act.put, List.getElem_toArray, List.getElem_cons_zero, List.getElem_cons_succ, List.setIfInBounds_toArray, List.set_cons_zero, List.set_cons_succ]
      refine wpAnyK_step (i := 5) rfl (by kernel_rfl) (fun K hK => ?_)
      go_simp
      refine ((hop15_ok af nf cf zf pf jf GF.out (m + z6) ⟨by omega, by omega⟩ _ F2.out.row).mono fun _ _ h => h.hp).mono ?_
      rintro e x3 ⟨ac, nc, cc, zc, pc, jc, ec, rfl, hb3, hr3, hh3, hx3⟩
      have FG := Lib.hid hh3
      have RG := Lib.hid hr3
      have XG := Lib.hid (show ∀ x, ac = some x → x.block ≠ W.heap.size from fun x hx => by have := hx3 x hx; have := S2.out.lt; omega)
      have HGG := Lib.hid (show ∀ x, ac = some x → 1 ≤ nc → x.block ≠ w9.heap.size from fun x hx h1 => by have := hx3 x hx; have := HGL.out; omega)
      have F3 := Lib.hid (F2.out.call hb3)
      have G3 := Lib.hid (G2.out.call hb3)
      have A3 := Lib.hid (A2.out.call hb3)
      have B3 := Lib.hid (B2.out.call hb3)
      have S3 := Lib.hid (hldZ_below S2.out hb3)
      have ZN3 := Lib.hid (ZN2.out.below hb3)
      clear hb3 hr3 hh3 hx3
      refine hK.out _ _ (Hbx.cells F3.out) (fun hHeld3 => ?_)
      clear hK K hHeld2
      try simp only [Act.put, List.getElem_toArray, List.getElem_cons_zero, List.getElem_cons_succ, List.setIfInBounds_toArray, List.set_cons_zero, List.set_cons_succ]
      refine wpAnyK_take (i := 6) (v := ?_) rfl (by kernel_rfl) (fun _ _ _ h => h) (Or.inl ⟨by rfl, ?_⟩) (by assumption) ?_
      rotate_left
      · (intro w hSw; (try dsimp only at hSw); go_simp; try with_reducible rfl)
      try simp only [Act.put, List.getElem_toArray, List.getElem_cons_zero, List.getElem_cons_succ, List.setIfInBounds_toArray, List.set_cons_zero, List.set_cons_succ]
      refine wpAnyK_take (i := 7) (v := ?_) rfl (by kernel_rfl) (fun _ _ _ h => h) (Or.inl ⟨by rfl, ?_⟩) (by assumption) ?_
      rotate_left
      · (intro w hSw; (try dsimp only at hSw); go_simp; try with_reducible rfl)
      try simp only [Act.put, List.getElem_toArray, List.getElem_cons_zero, List.getElem_cons_succ, List.setIfInBounds_toArray, List.set_cons_zero, List.set_cons_succ]
      refine wpAnyK_take (i := 8) (v := ?_) rfl (by kernel_rfl) (fun _ _ _ h => h) (Or.inl ⟨by rfl, ?_⟩) (by assumption) ?_
      rotate_left
      · (intro w hSw; (try dsimp only at hSw); go_simp; try with_reducible rfl)
      try simp only [Act.put, List.getElem_toArray, List.getElem_cons_zero, List.getElem_cons_succ, List.setIfInBounds_toArray, List.set_cons_zero, List.set_cons_succ]
      have LF := Lib.hid (F3.out.lay HQF.out.1 HQF.out.2 (.slice ac nc cc) (.int .i64 pc) (.int .i64 jc))
      have LG := Lib.hid (G3.out.lay HQG.out.1 HQG.out.2 (.slice ac nc cc) (.int .i64 pc) (.int .i64 jc))
      have LA := Lib.hid (A3.out.lay HQA.out.1 HQA.out.2 (.slice ac nc cc) (.int .i64 pc) (.int .i64 jc))
      have LB := Lib.hid (B3.out.lay HQB.out.1 HQB.out.2 (.slice ac nc cc) (.int .i64 pc) (.int .i64 jc))
      have GP := Lib.hid (Hbx.put (p := pc) (j := jc) ZN3.out RG.out HGN.out HGG.out XG.out)
      have SP := Lib.hid (((S3.out.set hbl (p := ⟨w9.heap.size, 0, none⟩) HGW.out (.slice ac nc cc)).set hbl (p := ⟨w9.heap.size, 1, none⟩) HGW.out (.int .i64 pc)).set hbl (p := ⟨w9.heap.size, 2, none⟩) HGW.out (.int .i64 jc))
      obtain ⟨q0, q1, q2, q3, q4, q5⟩ := ZN3.out
      refine wpAnyK_step (i := 10) rfl (by kernel_rfl) (fun K hK => ?_)
      go_simp
      refine hK.out _ _ (Hbx.cells LF.out) (fun hHeldZ => ?_)
      clear hK K hHeld3
      try simp only [Act.put, List.getElem_toArray, List.getElem_cons_zero, List.getElem_cons_succ, List.setIfInBounds_toArray, List.set_cons_zero, List.set_cons_succ]
      refine wpAnyK_done (by kernel_rfl) ?_
      simp only [List.drop_succ_cons, List.drop_zero]
      clear hHeldZ q0 q1 q2 q3 q4 q5
      go_wp2_with fail
      go_meet
      case rel => exact ⟨_, ac, nc, cc, zc, pc, jc, ec, m + z6, rfl, rfl, Lib.hid ⟨by omega, FG.out⟩, Lib.hid ⟨LF.out, LG.out, LA.out, LB.out, GP.out, SP.out⟩⟩
  case rest =>
  obtain ⟨Bc, ac, nc, cc, zc, pc, jc, ec, mm, rfl, rfl, HCC, HC⟩ := hcut
  obtain ⟨u6, rfl⟩ : ∃ u : World, u = wc := ⟨_, rfl⟩
  clear G0
  have F := Lib.hid HC.out.1
  have G := Lib.hid HC.out.2.1
  have A := Lib.hid HC.out.2.2.1
  have B := Lib.hid HC.out.2.2.2.1
  have C := Lib.hid HC.out.2.2.2.2.1
  have S := Lib.hid HC.out.2.2.2.2.2
  clear HC
  obtain ⟨x0, x1, x2⟩ := Hbx.cells F.out
  go_wp2_with fail
  clear x0 x1 x2
  refine ((lowered15 af nf cf zf pf jf GF.out (mild_later (drawn_mild OF.out.1 (by omega)) (by omega)) m hmr _ F.out.row).mono fun _ _ h => h.hp).mono ?_
  rintro e v9 ⟨ad, nd, cd, zd, pd, jd, ed, rfl, hb9, hr9, h9, hx9⟩
  have HDD := Lib.hid h9
  have X9 := Lib.hid (show ∀ x, ad = some x → x.block ≠ W.heap.size from fun x hx => by have := hx9 x hx; have := S.out.lt; omega)
  have R9 := Lib.hid hr9
  have F25 := Lib.hid (F.out.call hb9)
  clear F
  have G25 := Lib.hid (G.out.call hb9)
  clear G
  have A25 := Lib.hid (A.out.call hb9)
  clear A
  have B25 := Lib.hid (B.out.call hb9)
  clear B
  have C25 := Lib.hid (C.out.call hb9)
  clear C
  have S25 := Lib.hid (hldZ_below S.out hb9)
  clear S
  clear hb9 hr9 h9 hx9
  go_upto_region 8 with fail
  obtain ⟨u9, hu9⟩ : ∃ V, v9.alloc (.cells #[.slice ad nd cd, .int .i64 pd, .int .i64 jd] 24) = V := ⟨_, rfl⟩
  have hb9 : Below v9.heap.size v9 u9 := by rw [← hu9]; exact (Below.refl _ _).alloc (Nat.le_refl _) _
  have D := Lib.hid (show Hbx W.heap.size u9 v9.heap.size ad nd cd pd jd zd by rw [← hu9]; exact Hbx.new R9.out S25.out.lt X9.out)
  have F26 := Lib.hid (F25.out.call hb9)
  clear F25
  have G26 := Lib.hid (G25.out.call hb9)
  clear G25
  have A26 := Lib.hid (A25.out.call hb9)
  clear A25
  have B26 := Lib.hid (B25.out.call hb9)
  clear B25
  have C26 := Lib.hid (C25.out.call hb9)
  clear C25
  have S26 := Lib.hid (hldZ_below S25.out hb9)
  clear S25
  rw [hu9]
  clear hu9 hb9 R9 X9
  obtain ⟨Bd, hB9⟩ : ∃ B, v9.heap.size = B := ⟨_, rfl⟩
  rw [hB9] at D ⊢
  clear hB9
  obtain ⟨w9, rfl⟩ : ∃ u : World, u = u9 := ⟨_, rfl⟩
  obtain ⟨hz1, hz2, hz3, hz4⟩ := HA.out.unique HDD.out
  subst hz1 hz2 hz3 hz4
  obtain ⟨x0, x1, x2⟩ := Hbx.cells A26.out
  obtain ⟨y0, y1, y2⟩ := Hbx.cells D.out
  have hec : ed = 0 ∨ ed = 3 := by rcases HDD.out with ⟨h, _⟩ | ⟨h, _⟩ <;> omega
  go_wp2_with fail
  clear x0 x1 x2 y0 y1 y2
  refine (rsame_any aa na ca zd pd jd ad nd cd zd pd jd true (sameB_selfH _ _ _) _ A26.out.row D.out.row).mono ?_
  rintro e v9 ⟨rfl, hb9⟩
  have F27 := Lib.hid (F26.out.call hb9)
  clear F26
  have G27 := Lib.hid (G26.out.call hb9)
  clear G26
  have A27 := Lib.hid (A26.out.call hb9)
  clear A26
  have B27 := Lib.hid (B26.out.call hb9)
  clear B26
  have C27 := Lib.hid (C26.out.call hb9)
  clear C26
  have S27 := Lib.hid (hldZ_below S26.out hb9)
  clear S26
  have D27 := Lib.hid (D.out.call hb9)
  clear D
  clear hb9
  rcases HA.out with ⟨he0, qa, hqa, hfa⟩ | ⟨he3, hno, hz0, hp0, hj0⟩
  rotate_left
  · subst he3
    clear hno hz0 hp0 hj0 hec
    go_wp2_with fail
    refine (awake15 _).mono ?_
    rintro e v10 ⟨rfl, hb10⟩
    have E := Lib.hid (hldZ_below S27.out hb10)
    clear hb10
    go_wp2_with fail
    go_ret
    exact ⟨rfl, HB1.out.trans (E.out.ap.below (Nat.le_refl _) HB1.out.size)⟩
  subst he0 hqa
  have FA := Lib.hid hfa
  clear hfa hec
  have hf0 : atC zf pf jf 0 = zf.getD 0 0 := atC_lt (by have := GF.out.p1; have := GF.out.p3; omega)
  obtain ⟨f0, hf0e⟩ : ∃ f0, zf.getD 0 0 = f0 := ⟨_, rfl⟩
  have hf0r : 0 ≤ f0 ∧ f0 ≤ 10000 := by
    have h1 := OF.out.1.val 0 (by have := GF.out.p1; have := GF.out.p3; omega)
    have h2 := GF.out.val 0 (by have := GF.out.p1; have := GF.out.p3; omega)
    have h3 := OF.out.2
    rw [hf0e] at h1 h2 h3
    rcases h1 with h1 | h1
    · rcases h2 with h2 | h2
      · omega
      · exact absurd h2 h3
    · exact absurd h1 h3
  obtain ⟨f00, f01⟩ := hf0r
  have HF0 := Lib.hid (show atC zf pf jf 0 = f0 from hf0.trans hf0e)
  have HVA := Lib.hid (show atC zd qa jd 1 = max (f0 - (m - 1)) 0 from FA.out.at (by
    rw [eHop_succ]
    unfold eLower eC
    rw [HF0.out, if_neg (fun h => OF.out.2 (hf0e.trans h.2))]; rfl))
  clear hf0 hf0e
  obtain ⟨x0, x1, x2⟩ := Hbx.cells A27.out
  go_wp2_with fail
  clear x0 x1 x2
  refine (value_at aa na ca zd qa jd FA.out.1 1 1 rfl (by omega) _ HVA.out _ A27.out.row).mono ?_
  rintro e v10 ⟨rfl, hb10⟩
  have F28 := Lib.hid (F27.out.call hb10)
  clear F27
  have G28 := Lib.hid (G27.out.call hb10)
  clear G27
  have A28 := Lib.hid (A27.out.call hb10)
  clear A27
  have B28 := Lib.hid (B27.out.call hb10)
  clear B27
  have C28 := Lib.hid (C27.out.call hb10)
  clear C27
  have S28 := Lib.hid (hldZ_below S27.out hb10)
  clear S27
  have D28 := Lib.hid (D27.out.call hb10)
  clear D27
  clear hb10
  obtain ⟨x0, x1, x2⟩ := Hbx.cells F28.out
  go_wp2_with fail
  clear x0 x1 x2
  refine (rat_at af nf cf zf pf jf GF.out 0 0 rfl (by omega) f0 HF0.out _ F28.out.row).mono ?_
  rintro e v11 ⟨rfl, hb11⟩
  have F29 := Lib.hid (F28.out.call hb11)
  clear F28
  have G29 := Lib.hid (G28.out.call hb11)
  clear G28
  have A29 := Lib.hid (A28.out.call hb11)
  clear A28
  have B29 := Lib.hid (B28.out.call hb11)
  clear B28
  have C29 := Lib.hid (C28.out.call hb11)
  clear C28
  have S29 := Lib.hid (hldZ_below S28.out hb11)
  clear S28
  have D29 := Lib.hid (D28.out.call hb11)
  clear D28
  clear hb11
  have hwm1 : IntKind.i64.wrap (m - 1) = m - 1 := IntWalk.i64_in _ ⟨by omega, by omega⟩
  have hwf : IntKind.i64.wrap (f0 - (m - 1)) = f0 - (m - 1) := IntWalk.i64_in _ ⟨by omega, by omega⟩
  obtain ⟨v1, hv1⟩ : ∃ v, max (f0 - (m - 1)) 0 = v := ⟨_, rfl⟩
  have hv2 : max 0 (f0 - (m - 1)) = v1 := by omega
  have hv3 : (if 0 < f0 - (m - 1) then f0 - (m - 1) else 0) = v1 := by split <;> omega
  have hv4 : (if 0 ≤ f0 - (m - 1) then f0 - (m - 1) else 0) = v1 := by split <;> omega
  rw [hv1]
  rcases HB.out with ⟨he0, qb, hqb, hfb⟩ | ⟨he3, _⟩
  · subst he0 hqb
    have FB := Lib.hid hfb
    clear hfb
    rcases HCC.out.2 with ⟨he0, qc, hqc, hfc⟩ | ⟨he3, _⟩
    · subst he0 hqc
      have FC := Lib.hid hfc
      clear hfc
      obtain ⟨x0, x1, x2⟩ := Hbx.cells A29.out
      obtain ⟨y0, y1, y2⟩ := Hbx.cells B29.out
      go_wp2_with fail
      all_goals (try (exfalso; omega))
      all_goals (
        clear x0 x1 x2 y0 y1 y2
        refine (atMost15 aa na ca zd qa jd FA.out.1 ab nb cb zb qb jb FB.out.1 (fun t => by rw [FA.out.2.1, FB.out.2.1]; exact hop_ole HG.out.2 (Int.le_refl _) t) _ A29.out.row B29.out.row).mono ?_
        rintro e v12 ⟨rfl, hb12⟩
        have A41 := Lib.hid (A29.out.call hb12)
        have B41 := Lib.hid (B29.out.call hb12)
        have C41 := Lib.hid (C29.out.call hb12)
        have S41 := Lib.hid (hldZ_below S29.out hb12)
        clear hb12
        obtain ⟨x0, x1, x2⟩ := Hbx.cells A41.out
        obtain ⟨y0, y1, y2⟩ := Hbx.cells C41.out
        go_wp2_with fail
        clear x0 x1 x2 y0 y1 y2
        refine (atMost15 ac nc cc zc qc jc FC.out.1 aa na ca zd qa jd FA.out.1 (fun t => by rw [FA.out.2.1, FC.out.2.1]; exact hop_ole (fun t => ole_refl _) (by have := HCC.out.1; omega) t) _ C41.out.row A41.out.row).mono ?_
        rintro e v13 ⟨rfl, hb13⟩
        have A42 := Lib.hid (A41.out.call hb13)
        have B42 := Lib.hid (B41.out.call hb13)
        have C42 := Lib.hid (C41.out.call hb13)
        have S42 := Lib.hid (hldZ_below S41.out hb13)
        clear hb13
        go_wp2_with fail
        refine (awake15 _).mono ?_
        rintro e v14 ⟨rfl, hb14⟩
        have E := Lib.hid (hldZ_below S42.out hb14)
        clear hb14
        go_wp2_with fail
        go_ret
        exact ⟨rfl, HB1.out.trans (E.out.ap.below (Nat.le_refl _) HB1.out.size)⟩)
    · subst he3
      obtain ⟨x0, x1, x2⟩ := Hbx.cells A29.out
      obtain ⟨y0, y1, y2⟩ := Hbx.cells B29.out
      go_wp2_with fail
      all_goals (try (exfalso; omega))
      all_goals (
        clear x0 x1 x2 y0 y1 y2
        refine (atMost15 aa na ca zd qa jd FA.out.1 ab nb cb zb qb jb FB.out.1 (fun t => by rw [FA.out.2.1, FB.out.2.1]; exact hop_ole HG.out.2 (Int.le_refl _) t) _ A29.out.row B29.out.row).mono ?_
        rintro e v12 ⟨rfl, hb12⟩
        have A41 := Lib.hid (A29.out.call hb12)
        have B41 := Lib.hid (B29.out.call hb12)
        have C41 := Lib.hid (C29.out.call hb12)
        have S41 := Lib.hid (hldZ_below S29.out hb12)
        clear hb12
        go_wp2_with fail
        refine (awake15 _).mono ?_
        rintro e v14 ⟨rfl, hb14⟩
        have E := Lib.hid (hldZ_below S41.out hb14)
        clear hb14
        go_wp2_with fail
        go_ret
        exact ⟨rfl, HB1.out.trans (E.out.ap.below (Nat.le_refl _) HB1.out.size)⟩)
  · subst he3
    rcases HCC.out.2 with ⟨he0, qc, hqc, hfc⟩ | ⟨he3, _⟩
    · subst he0 hqc
      have FC := Lib.hid hfc
      clear hfc
      obtain ⟨x0, x1, x2⟩ := Hbx.cells A29.out
      obtain ⟨y0, y1, y2⟩ := Hbx.cells C29.out
      go_wp2_with fail
      all_goals (try (exfalso; omega))
      all_goals (
        clear x0 x1 x2 y0 y1 y2
        refine (atMost15 ac nc cc zc qc jc FC.out.1 aa na ca zd qa jd FA.out.1 (fun t => by rw [FA.out.2.1, FC.out.2.1]; exact hop_ole (fun t => ole_refl _) (by have := HCC.out.1; omega) t) _ C29.out.row A29.out.row).mono ?_
        rintro e v13 ⟨rfl, hb13⟩
        have A41 := Lib.hid (A29.out.call hb13)
        have B41 := Lib.hid (B29.out.call hb13)
        have C41 := Lib.hid (C29.out.call hb13)
        have S41 := Lib.hid (hldZ_below S29.out hb13)
        clear hb13
        go_wp2_with fail
        refine (awake15 _).mono ?_
        rintro e v14 ⟨rfl, hb14⟩
        have E := Lib.hid (hldZ_below S41.out hb14)
        clear hb14
        go_wp2_with fail
        go_ret
        exact ⟨rfl, HB1.out.trans (E.out.ap.below (Nat.le_refl _) HB1.out.size)⟩)
    · subst he3
      go_wp2_with fail
      all_goals (try (exfalso; omega))
      all_goals (
        refine (awake15 _).mono ?_
        rintro e v14 ⟨rfl, hb14⟩
        have E := Lib.hid (hldZ_below S29.out hb14)
        clear hb14
        go_wp2_with fail
        go_ret
        exact ⟨rfl, HB1.out.trans (E.out.ap.below (Nat.le_refl _) HB1.out.size)⟩)
end Go.Proofs.Ythljhddnfflpjaa
