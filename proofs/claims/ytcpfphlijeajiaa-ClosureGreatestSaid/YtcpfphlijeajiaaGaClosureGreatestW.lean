/- The walk of ClosureGreatest. By the verifier's side. -/
import Derived.Test.YtcpfphlijeajiaaGaCloFCloXCloG
import Derived.Test.YtcpfphlijeajiaaGaZeroZero3
import Derived.Test.YtcpfphlijeajiaaGaConER
import Derived.Test.YtcpfphlijeajiaaGaPwU
import Derived.Deep.CutBlock
namespace Go.Proofs.Ytcpfphlijeajiaa
open Go.RowKit
set_option linter.unusedSimpArgs false
set_option linter.unusedVariables false

theorem zero_day {most : Nat} {zs : List Int} {p : Nat} {inc : Int} (hf : ¬ InfC zs) (h : Sm3 most zs p inc) : Day (eC zs p inc) := by
  obtain ⟨c, hc⟩ := (h.2 hf).2
  refine ⟨most, _, (by rw [encF_eC]; exact hc.mul 2), .inr fun t _ => ?_⟩
  rw [encF_eC, eC_fin hf]
theorem ratMost_is (a1 : Option Addr) (n1 cap1 : Nat) (z1 : List Int) (p1 : Nat) (i1 : Int) (g1 : Good z1 p1 i1) (a2 : Option Addr) (n2 cap2 : Nat) (z2 : List Int) (p2 : Nat) (i2 : Int) (g2 : Good z2 p2 i2) (b : Bool) (hb : b = true ↔ ∀ t, ole (eC z1 p1 i1 t) (eC z2 p2 i2 t)) (w : World) (h1 : RowZ w a1 n1 cap1 z1) (h2 : RowZ w a2 n2 cap2 z2) :
    Calls Try.prog 32 #[curV a1 n1 cap1 p1 i1, curV a2 n2 cap2 p2 i2] w (Says (.bool b) w) := by
  obtain ⟨t, ok, hE⟩ := excP_ex (dC z1 p1 i1 z2 p2 i2)
  have e : (!ok) = b := by
    cases b with
    | true => rw [(hE.unique (excP_of (hb.1 rfl))).2]; rfl
    | false =>
      cases ok with
      | true => rfl
      | false =>
        rcases hE with ⟨h, _⟩ | ⟨_, _, h⟩
        · cases h
        · exact absurd (hb.2 (ole_of_d g1 g2 h)) (by decide)
  rw [← e]
  exact ratMost_ok a1 n1 cap1 z1 p1 i1 g1 a2 n2 cap2 z2 p2 i2 g2 t ok w h1 h2 hE

set_option maxRecDepth 100000 in
set_option maxHeartbeats 6400000 in
theorem closureGreatest_walk (W : World) (a : Option Addr) (n cap : Nat) (hrow : RowAt W a n cap) :
    Calls Try.prog 5 #[.slice a n cap] W fun e w' => e = .returned (.bool true) ∧ Below W.heap.size W w' := by
  have HR := Lib.hid hrow
  clear hrow
  go_enter Try.func5, Try.ntmps5
  go_wp2_with fail
  refine (new_any a n cap _ HR.out).mono ?_
  rintro e u1 ⟨rfl, hb1, hz1, ra, rn, rc, hs1⟩
  have HB1 := Lib.hid hb1
  have HS1 := Lib.hid hs1
  have Z1 := Lib.hid hz1
  clear hb1 hz1 hs1
  go_wp2_with fail
  refine (zero_any3 7 (by omega) (by omega) _ ra rn rc _ HS1.out).mono ?_
  rintro e u2 ⟨af, nf, capf, zf, pf, jf, rfl, hs2, he2, hr2, hg2, hn2, h02, hsm2, hx2⟩
  have OF := Lib.hid (And.intro hg2 (zero_day hn2 hsm2))
  have HS2 := Lib.hid hs2
  have R2 := Lib.hid hr2
  have X2 := Lib.hid (show ∀ x, af = some x → ¬ x.block = W.heap.size from fun x hx => by have := hx2 x hx; have := Z1.out; omega)
  have HB2 := Lib.hid (HB1.out.trans (he2.below (Nat.le_refl _) HB1.out.size))
  clear hs2 he2 hr2 hg2 hn2 h02 hsm2 hx2
  go_wp2_with fail
  refine (zero_any3 5 (by omega) (by omega) _ ra rn rc _ HS2.out).mono ?_
  rintro e u3 ⟨ag, ng, capg, zg, pg, jg, rfl, hs3, he3, hr3, hg3, hn3, h03, hsm3, hx3⟩
  have OG := Lib.hid (And.intro hg3 (zero_day hn3 hsm3))
  have R3 := Lib.hid (And.intro (R2.out.apart he3 X2.out) hr3)
  have HB3 := Lib.hid (HB2.out.trans (he3.below (Nat.le_refl _) HB2.out.size))
  clear hs3 he3 hr3 hg3 hn3 h03 hsm3 hx3
  obtain ⟨yf, qf, kf, nf1⟩ := OF.out.1.norm_ex
  obtain ⟨yg, qg, kg, ng1⟩ := OG.out.1.norm_ex
  have NF := Lib.hid (And.intro nf1 (clo_norm OF.out.1 nf1))
  have NG := Lib.hid (And.intro ng1 (clo_norm OG.out.1 ng1))
  clear nf1 ng1
  obtain ⟨w0, hw⟩ : ∃ w', (u3.alloc (.cells #[.slice af nf capf, .int .i64 pf, .int .i64 jf] 24)).alloc (.cells #[.slice ag ng capg, .int .i64 pg, .int .i64 jg] 24) = w' := ⟨_, rfl⟩
  have hz : Below u3.heap.size u3 w0 := by rw [← hw]; exact (below_box _).alloc (by simp) _
  have Xf := Lib.hid (show Bx w0 u3.heap.size af nf capf pf jf zf by rw [← hw]; exact (Bx.new R3.out.1).under (below_box _))
  have Xg := Lib.hid (show Bx w0 (u3.heap.size + 1) ag ng capg pg jg zg by
    rw [← hw]
    have := Bx.new (p := pg) (inc := jg) (R3.out.2.alloc (.cells #[.slice af nf capf, .int .i64 pf, .int .i64 jf] 24))
    rwa [show (u3.alloc (.cells #[.slice af nf capf, .int .i64 pf, .int .i64 jf] 24)).heap.size = u3.heap.size + 1 by simp] at this)
  have HB5 := Lib.hid (HB3.out.trans (hz.mono HB3.out.size))
  have HW0 := Lib.hid hw
  clear hw hz HB1 HB2 HB3 HS1 HS2 R2 R3 X2 Z1
  go_upto_region 3 with fail
  try rw [HW0.out]
  clear HW0
  obtain ⟨F, hF⟩ : ∃ F, u3.heap.size = F := ⟨_, rfl⟩
  rw [hF] at Xf Xg
  try rw [hF]
  clear hF
  obtain ⟨G, hG⟩ : ∃ G, F + 1 = G := ⟨_, rfl⟩
  rw [hG] at Xg
  try rw [hG]
  clear hG
  obtain ⟨c0, c1, c2, c3, c4, c5⟩ := Xf.out.box
  go_wp2_with fail
  clear c0 c1 c2 c3 c4 c5
  refine (clof_any af nf capf zf pf jf OF.out.1 NF.out.1 _ Xf.out.row).mono ?_
  rintro e v1 ⟨hb, ⟨ah, nh, caph, zh, ph, jh, rfl, hr, hf, _, _, hx⟩ | ⟨rfl, hno⟩⟩
  rotate_left
  · have HBQ := Lib.hid (HB5.out.trans ((hb.trans ((below_box (.cells #[.slice none 0 0, .int .i64 0, .int .i64 0] 24)).mono hb.size)).mono HB5.out.size))
    clear hb hno
    go_wp2_with fail
    refine (awake9 _).mono ?_
    rintro e y9 ⟨rfl, hb⟩
    have HBZ := Lib.hid (HBQ.out.trans (hb.mono HBQ.out.size))
    clear hb
    go_wp2_with fail
    go_ret
    exact ⟨rfl, HBZ.out⟩
  obtain ⟨w1, hw⟩ : ∃ w', v1.alloc (.cells #[.slice ah nh caph, .int .i64 ph, .int .i64 jh] 24) = w' := ⟨_, rfl⟩
  have hz : Below w0.heap.size w0 w1 := by rw [← hw]; exact hb.trans ((below_box _).mono hb.size)
  have OH := Lib.hid (show EForm zh ph jh (oclo (eC zf pf jf)) from by rw [← NF.out.2]; exact hf)
  have NH := Lib.hid (show NormC zh ph jh zh ph jh from by obtain ⟨_, _, h⟩ := norm_self hf; exact h)
  have Yf := Lib.hid (Xf.out.under hz)
  have Yg := Lib.hid (Xg.out.under hz)
  have Yh := Lib.hid (show Bx w1 v1.heap.size ah nh caph ph jh zh by rw [← hw]; exact Bx.new hr)
  have HB6 := Lib.hid (HB5.out.trans (hz.mono HB5.out.size))
  have HW1 := Lib.hid hw
  clear hb hr hf hx hz hw Xf Xg HB5
  go_upto_region 4 with fail
  try rw [HW1.out]
  clear HW1
  obtain ⟨H, hH⟩ : ∃ H, v1.heap.size = H := ⟨_, rfl⟩
  rw [hH] at Yh
  try rw [hH]
  clear hH
  obtain ⟨c0, c1, c2, c3, c4, c5⟩ := Yh.out.box
  go_wp2_with fail
  clear c0 c1 c2 c3 c4 c5
  refine (csub_ok ah nh caph zh ph jh OH.out.1 true ⟨fun _ => by rw [funext OH.out.2.1]; exact clo_sub _, fun _ => rfl⟩ _ Yh.out.row).mono ?_
  rintro e w2 ⟨rfl, hb⟩
  have Xf := Lib.hid (Yf.out.under hb)
  have Xg := Lib.hid (Yg.out.under hb)
  have Xh := Lib.hid (Yh.out.under hb)
  have HB7 := Lib.hid (HB6.out.trans (hb.mono HB6.out.size))
  clear hb Yf Yg Yh HB6
  obtain ⟨c0, c1, c2, c3, c4, c5⟩ := Xh.out.box
  obtain ⟨d0, d1, d2, d3, d4, d5⟩ := Xf.out.box
  go_wp2_with fail
  clear c0 c1 c2 c3 c4 c5 d0 d1 d2 d3 d4 d5
  have HLE := Lib.hid (show ∀ t, ole (eC zh ph jh t) (eC zf pf jf t) from fun t => by
    rw [OH.out.2.1]
    rcases Nat.eq_zero_or_pos t with rfl | ht
    · intro y hy; exact ⟨0, rfl, (eC_bd OF.out.1 hy).1⟩
    · exact clo_le ht)
  refine (ratMost_is ah nh caph zh ph jh OH.out.1 af nf capf zf pf jf OF.out.1 true ⟨fun _ => HLE.out, fun _ => rfl⟩ _ Xh.out.row Xf.out.row).mono ?_
  rintro e w3 ⟨rfl, hb⟩
  have Yf := Lib.hid (Xf.out.under hb)
  have Yg := Lib.hid (Xg.out.under hb)
  have Yh := Lib.hid (Xh.out.under hb)
  have HB8 := Lib.hid (HB7.out.trans (hb.mono HB7.out.size))
  clear hb Xf Xg Xh HB7
  obtain ⟨c0, c1, c2, c3, c4, c5⟩ := Yh.out.box
  go_wp2_with fail
  clear c0 c1 c2 c3 c4 c5
  refine ((clof_any ah nh caph zh ph jh OH.out.1 NH.out _ Yh.out.row).mono fun _ _ h => h.y).mono ?_
  rintro e v4 ⟨ak, nk, capk, zk, pk, jk, ck, rfl, hb, hr, hm, hx⟩
  obtain ⟨w4, hw⟩ : ∃ w', v4.alloc (.cells #[.slice ak nk capk, .int .i64 pk, .int .i64 jk] 24) = w' := ⟨_, rfl⟩
  have hz : Below w3.heap.size w3 w4 := by rw [← hw]; exact hb.trans ((below_box _).mono hb.size)
  have HM := Lib.hid (show (ck = 0 ∧ ∃ r : Nat, pk = r ∧ EForm zk r jk (oclo (eC zf pf jf))) ∨ ck = 3 from by
    rcases hm with ⟨h1, r, h2, h3⟩ | ⟨h1, _⟩
    · refine .inl ⟨h1, r, h2, ?_⟩
      unfold eClo at h3
      rwa [funext OH.out.2.1, clo_idem] at h3
    · exact .inr h1)
  have S4 := Lib.hid (show Bx w4 F af nf capf pf jf zf ∧ Bx w4 G ag ng capg pg jg zg ∧ Bx w4 H ah nh caph ph jh zh ∧ Below W.heap.size W w4 from ⟨Yf.out.under hz, Yg.out.under hz, Yh.out.under hz, HB8.out.trans (hz.mono HB8.out.size)⟩)
  have Xk := Lib.hid (show Cur3 w4 v4.heap.size (.slice ak nk capk) (.int .i64 pk) (.int .i64 jk) ∧ RowZ w4 ak nk capk zk by rw [← hw]; exact ⟨Cur3.new v4 _ _ _ _, hr.alloc _⟩)
  have HW4 := Lib.hid hw
  clear hb hr hm hx hz hw Yf Yg Yh HB8
  go_upto_region 10 with fail
  try rw [HW4.out]
  clear HW4
  go_cut [65] (fun s65 wx => s65 = .bool false ∧ Hid (Bx wx F af nf capf pf jf zf ∧ Bx wx G ag ng capg pg jg zg ∧ Bx wx H ah nh caph ph jh zh ∧ Below W.heap.size W wx))
  case first =>
    rcases HM.out with ⟨rfl, r, rfl, hf⟩ | rfl
    · have HFK := Lib.hid hf
      clear hf
      obtain ⟨c0, c1, c2, c3, c4, c5⟩ := Xk.out.1
      obtain ⟨d0, d1, d2, d3, d4, d5⟩ := S4.out.2.2.1.box
      go_wp2_with fail
      clear c0 c1 c2 c3 c4 c5 d0 d1 d2 d3 d4 d5
      refine (same_at HFK.out OH.out _ Xk.out.2 S4.out.2.2.1.row).mono ?_
      rintro e w5 ⟨rfl, hb⟩
      have S5 := Lib.hid (show Bx w5 F af nf capf pf jf zf ∧ Bx w5 G ag ng capg pg jg zg ∧ Bx w5 H ah nh caph ph jh zh ∧ Below W.heap.size W w5 from ⟨S4.out.1.under hb, S4.out.2.1.under hb, S4.out.2.2.1.under hb, S4.out.2.2.2.trans (hb.mono S4.out.2.2.2.size)⟩)
      clear hb S4 Xk
      go_wp2_with fail
      go_meet
      exact ⟨rfl, S5⟩
    · go_wp2_with fail
      go_meet
      exact ⟨rfl, S4⟩
  case rest =>
    obtain ⟨rfl, S5⟩ := hcut
    obtain ⟨w5, rfl⟩ : ∃ u : World, u = wc := ⟨_, rfl⟩
    clear S4 Xk HM
    obtain ⟨c0, c1, c2, c3, c4, c5⟩ := S5.out.2.1.box
    go_wp2_with fail
    clear c0 c1 c2 c3 c4 c5
    refine ((clof_any ag ng capg zg pg jg OG.out.1 NG.out.1 _ S5.out.2.1.row).mono fun _ _ h => h.y).mono ?_
    rintro e v6 ⟨am, nm, capm, zm, pm, jm, cm, rfl, hb, hr, hm, hx⟩
    obtain ⟨w6, hw⟩ : ∃ w', v6.alloc (.cells #[.slice am nm capm, .int .i64 pm, .int .i64 jm] 24) = w' := ⟨_, rfl⟩
    have hz : Below w5.heap.size w5 w6 := by rw [← hw]; exact hb.trans ((below_box _).mono hb.size)
    have HM := Lib.hid (show (cm = 0 ∧ ∃ r : Nat, pm = r ∧ EForm zm r jm (oclo (eC zg pg jg))) ∨ cm = 3 from by
      rcases hm with ⟨h1, r, h2, h3⟩ | ⟨h1, _⟩
      · exact .inl ⟨h1, r, h2, by rw [← NG.out.2]; exact h3⟩
      · exact .inr h1)
    have S6 := Lib.hid (show Bx w6 F af nf capf pf jf zf ∧ Bx w6 G ag ng capg pg jg zg ∧ Bx w6 H ah nh caph ph jh zh ∧ Below W.heap.size W w6 from ⟨S5.out.1.under hz, S5.out.2.1.under hz, S5.out.2.2.1.under hz, S5.out.2.2.2.trans (hz.mono S5.out.2.2.2.size)⟩)
    have Xk := Lib.hid (show Cur3 w6 v6.heap.size (.slice am nm capm) (.int .i64 pm) (.int .i64 jm) ∧ RowZ w6 am nm capm zm by rw [← hw]; exact ⟨Cur3.new v6 _ _ _ _, hr.alloc _⟩)
    have HW6 := Lib.hid hw
    clear hb hr hm hx hz hw S5
    go_upto_region 13 with fail
    try rw [HW6.out]
    clear HW6
    go_cut [83] (fun s83 wx => s83 = .bool false ∧ Hid (Bx wx F af nf capf pf jf zf ∧ Bx wx G ag ng capg pg jg zg ∧ Bx wx H ah nh caph ph jh zh ∧ Below W.heap.size W wx))
    case first =>
      rcases HM.out with ⟨rfl, r, rfl, hf⟩ | rfl
      · have HFK := Lib.hid hf
        clear hf
        obtain ⟨c0, c1, c2, c3, c4, c5⟩ := Xk.out.1
        obtain ⟨d0, d1, d2, d3, d4, d5⟩ := S6.out.1.box
        go_wp2_with fail
        clear c0 c1 c2 c3 c4 c5 d0 d1 d2 d3 d4 d5
        by_cases hle : ∀ t, ole (eC zm r jm t) (eC zf pf jf t)
        · have HLK := Lib.hid hle
          clear hle
          refine (ratMost_is am nm capm zm r jm HFK.out.1 af nf capf zf pf jf OF.out.1 true ⟨fun _ => HLK.out, fun _ => rfl⟩ _ Xk.out.2 S6.out.1.row).mono ?_
          rintro e w7 ⟨rfl, hb⟩
          have S7 := Lib.hid (show Bx w7 F af nf capf pf jf zf ∧ Bx w7 G ag ng capg pg jg zg ∧ Bx w7 H ah nh caph ph jh zh ∧ Below W.heap.size W w7 from ⟨S6.out.1.under hb, S6.out.2.1.under hb, S6.out.2.2.1.under hb, S6.out.2.2.2.trans (hb.mono S6.out.2.2.2.size)⟩)
          have Xk7 := Lib.hid (And.intro (Xk.out.1.below hb) (Xk.out.2.under hb))
          clear hb S6 Xk
          obtain ⟨c0, c1, c2, c3, c4, c5⟩ := Xk7.out.1
          obtain ⟨d0, d1, d2, d3, d4, d5⟩ := S7.out.2.2.1.box
          go_wp2_with fail
          clear c0 c1 c2 c3 c4 c5 d0 d1 d2 d3 d4 d5
          have HLZ := Lib.hid (show ∀ t, ole (eC zm r jm t) (eC zh ph jh t) from fun t => by
            rw [OH.out.2.1, HFK.out.2.1]
            exact clo_great0 (clo_sub _) (fun t ht => by have := HLK.out t; rwa [HFK.out.2.1] at this) (ole_refl _) t)
          refine (ratMost_is am nm capm zm r jm HFK.out.1 ah nh caph zh ph jh OH.out.1 true ⟨fun _ => HLZ.out, fun _ => rfl⟩ _ Xk7.out.2 S7.out.2.2.1.row).mono ?_
          rintro e w8 ⟨rfl, hb⟩
          have S8 := Lib.hid (show Bx w8 F af nf capf pf jf zf ∧ Bx w8 G ag ng capg pg jg zg ∧ Bx w8 H ah nh caph ph jh zh ∧ Below W.heap.size W w8 from ⟨S7.out.1.under hb, S7.out.2.1.under hb, S7.out.2.2.1.under hb, S7.out.2.2.2.trans (hb.mono S7.out.2.2.2.size)⟩)
          clear hb S7 Xk7
          go_wp2_with fail
          go_meet
          exact ⟨rfl, S8⟩
        · have HLK := Lib.hid hle
          clear hle
          refine (ratMost_is am nm capm zm r jm HFK.out.1 af nf capf zf pf jf OF.out.1 false ⟨fun h => Bool.noConfusion h, fun h => absurd h HLK.out⟩ _ Xk.out.2 S6.out.1.row).mono ?_
          rintro e w7 ⟨rfl, hb⟩
          have S7 := Lib.hid (show Bx w7 F af nf capf pf jf zf ∧ Bx w7 G ag ng capg pg jg zg ∧ Bx w7 H ah nh caph ph jh zh ∧ Below W.heap.size W w7 from ⟨S6.out.1.under hb, S6.out.2.1.under hb, S6.out.2.2.1.under hb, S6.out.2.2.2.trans (hb.mono S6.out.2.2.2.size)⟩)
          clear hb S6 Xk
          go_wp2_with fail
          go_meet
          exact ⟨rfl, S7⟩
      · go_wp2_with fail
        go_meet
        exact ⟨rfl, S6⟩
    case rest =>
      obtain ⟨rfl, S7⟩ := hcut
      obtain ⟨w7, rfl⟩ : ∃ u : World, u = wc := ⟨_, rfl⟩
      clear S6 Xk HM
      obtain ⟨c0, c1, c2, c3, c4, c5⟩ := S7.out.1.box
      obtain ⟨d0, d1, d2, d3, d4, d5⟩ := S7.out.2.1.box
      go_wp2_with fail
      clear c0 c1 c2 c3 c4 c5 d0 d1 d2 d3 d4 d5
      refine ((rmin_day7 af nf capf zf pf jf OF.out.1 ag ng capg zg pg jg OG.out.1 OF.out.2 OG.out.2 _ S7.out.1.row S7.out.2.1.row).mono fun _ _ h => h.y).mono ?_
      rintro e v8 ⟨am, nm, capm, zm, pm, jm, cm, rfl, hb, hr, hm, hcm, hx⟩
      obtain ⟨w8, hw⟩ : ∃ w', v8.alloc (.cells #[.slice am nm capm, .int .i64 pm, .int .i64 jm] 24) = w' := ⟨_, rfl⟩
      have hz : Below w7.heap.size w7 w8 := by rw [← hw]; exact hb.trans ((below_box _).mono hb.size)
      have HM := Lib.hid hm
      have S8 := Lib.hid (show Bx w8 F af nf capf pf jf zf ∧ Bx w8 H ah nh caph ph jh zh ∧ Below W.heap.size W w8 from ⟨S7.out.1.under hz, S7.out.2.2.1.under hz, S7.out.2.2.2.trans (hz.mono S7.out.2.2.2.size)⟩)
      have Xm := Lib.hid (show Cur3 w8 v8.heap.size (.slice am nm capm) (.int .i64 pm) (.int .i64 jm) ∧ RowZ w8 am nm capm zm by rw [← hw]; exact ⟨Cur3.new v8 _ _ _ _, hr.alloc _⟩)
      have HW8 := Lib.hid hw
      clear hb hr hm hx hz hw S7 hcm
      go_upto_region 16 with fail
      try rw [HW8.out]
      clear HW8
      obtain ⟨c0, c1, c2, c3, c4, c5⟩ := Xm.out.1
      rcases HM.out with ⟨rfl, r, rfl, hf⟩ | ⟨hne, rfl, rfl, rfl⟩
      · have HFM := Lib.hid hf
        have NM := Lib.hid (show NormC zm r jm zm r jm from by obtain ⟨_, _, h⟩ := norm_self hf; exact h)
        clear hf
        go_wp2_with fail
        clear c0 c1 c2 c3 c4 c5
        refine ((clof_any am nm capm zm r jm HFM.out.1 NM.out _ Xm.out.2).mono fun _ _ h => h.y).mono ?_
        rintro e v9 ⟨ao, no, capo, zo, po, jo, co, rfl, hb, hr, hm, hx⟩
        obtain ⟨w9, hw⟩ : ∃ w', v9.alloc (.cells #[.slice ao no capo, .int .i64 po, .int .i64 jo] 24) = w' := ⟨_, rfl⟩
        have hz : Below w8.heap.size w8 w9 := by rw [← hw]; exact hb.trans ((below_box _).mono hb.size)
        have HO := Lib.hid (show (co = 0 ∧ ∃ r' : Nat, po = r' ∧ EForm zo r' jo (oclo (eMin zf pf jf zg pg jg))) ∨ co = 3 from by
          rcases hm with ⟨h1, r', h2, h3⟩ | ⟨h1, _⟩
          · refine .inl ⟨h1, r', h2, ?_⟩
            unfold eClo at h3
            rwa [funext HFM.out.2.1] at h3
          · exact .inr h1)
        have S9 := Lib.hid (show Bx w9 H ah nh caph ph jh zh ∧ Below W.heap.size W w9 from ⟨S8.out.2.1.under hz, S8.out.2.2.trans (hz.mono S8.out.2.2.size)⟩)
        have Xo := Lib.hid (show Cur3 w9 v9.heap.size (.slice ao no capo) (.int .i64 po) (.int .i64 jo) ∧ RowZ w9 ao no capo zo by rw [← hw]; exact ⟨Cur3.new v9 _ _ _ _, hr.alloc _⟩)
        have HW9 := Lib.hid hw
        clear hb hr hm hx hz hw S8
        go_upto_region 17 with fail
        try rw [HW9.out]
        clear HW9
        rcases HO.out with ⟨rfl, r', rfl, hf⟩ | rfl
        · have HFO := Lib.hid hf
          clear hf
          obtain ⟨c0, c1, c2, c3, c4, c5⟩ := Xo.out.1
          obtain ⟨d0, d1, d2, d3, d4, d5⟩ := S9.out.1.box
          go_wp2_with fail
          clear c0 c1 c2 c3 c4 c5 d0 d1 d2 d3 d4 d5
          have HLO := Lib.hid (show ∀ t, ole (eC zo r' jo t) (eC zh ph jh t) from fun t => by
            rw [OH.out.2.1, HFO.out.2.1]
            exact clo_mono (fun t _ => ole_omin_l _ _) t)
          refine (ratMost_is ao no capo zo r' jo HFO.out.1 ah nh caph zh ph jh OH.out.1 true ⟨fun _ => HLO.out, fun _ => rfl⟩ _ Xo.out.2 S9.out.1.row).mono ?_
          rintro e w10 ⟨rfl, hb⟩
          have HBQ := Lib.hid (S9.out.2.trans (hb.mono S9.out.2.size))
          clear hb
          go_wp2_with fail
          refine (awake9 _).mono ?_
          rintro e y9 ⟨rfl, hb⟩
          have HBZ := Lib.hid (HBQ.out.trans (hb.mono HBQ.out.size))
          clear hb
          go_wp2_with fail
          go_ret
          exact ⟨rfl, HBZ.out⟩
        · have HBQ := Lib.hid S9.out.2
          go_wp2_with fail
          refine (awake9 _).mono ?_
          rintro e y9 ⟨rfl, hb⟩
          have HBZ := Lib.hid (HBQ.out.trans (hb.mono HBQ.out.size))
          clear hb
          go_wp2_with fail
          go_ret
          exact ⟨rfl, HBZ.out⟩
      · have t1 : (cm != 0) = true := by simpa using hne
        clear hne
        go_wp2_with fail
        clear c0 c1 c2 c3 c4 c5
        refine (clof_bad am nm capm [] 0 0 ⟨by omega, by omega⟩ ⟨by omega, by omega⟩ okC_zero _ Xm.out.2).mono ?_
        rintro e v9 ⟨rfl, hb⟩
        have HBQ := Lib.hid (S8.out.2.2.trans ((hb.trans ((below_box (.cells #[.slice none 0 0, .int .i64 0, .int .i64 0] 24)).mono hb.size)).mono S8.out.2.2.size))
        clear hb
        go_wp2_with fail
        refine (awake9 _).mono ?_
        rintro e y9 ⟨rfl, hb⟩
        have HBZ := Lib.hid (HBQ.out.trans (hb.mono HBQ.out.size))
        clear hb
        go_wp2_with fail
        go_ret
        exact ⟨rfl, HBZ.out⟩

end Go.Proofs.Ytcpfphlijeajiaa
