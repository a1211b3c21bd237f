/- The walk of ConformShapes. By the verifier's side. -/
import Derived.Test.YtknimlpdpgpliaaCCfU
import Derived.Test.YtknimlpdpgpliaaCCfH
import Derived.Test.YtknimlpdpgpliaaCZero3
namespace Go.Proofs.Ytknimlpdpgpliaa
open Go.RowKit
set_option linter.unusedSimpArgs false
set_option linter.unusedVariables false

theorem hld14_below {w u v : World} {b : Nat} {a : Option Addr} {n cap : Nat} (h : Hld13 w b a n cap u) (hb : Below u.heap.size u v) : Hld13 w b a n cap v := by
  obtain ⟨k, hk, hs⟩ := h.src
  exact ⟨⟨k, hk, (hb.block b h.lt).trans hs⟩, h.ap.trans (below_apart hb)⟩
theorem pkR_apart14 {u v : World} {a : Option Addr} {n cap b : Nat} {l : List Pk} (h : PkR u a n cap l) (ha : Apart b u v) (hb : ∀ x, a = some x → ¬ x.block = b) : PkR v a n cap l :=
  ⟨h.len, h.le, h.sm, h.cm, h.place.imp id fun ⟨B, off, he, hc⟩ => ⟨B, off, he, hc.apart ha (hb _ he)⟩, h.bd⟩
/-- A curve that grows more. -/
theorem good_more {zs : List Int} {p : Nat} {inc d : Int} (g : Good zs p inc) (hf : ¬ InfC zs) (h0 : 0 ≤ d) (h1 : inc + d ≤ 1073741824) : Good zs p (inc + d) :=
  ⟨g.few, g.p1, g.p2, g.p3, by have := g.i0; omega, h1, g.val, g.mono, fun h => absurd h hf, fun h => by have := g.tailF h; omega⟩
theorem keepsA_no {l : List Pk} {fl : Int} {zs : List Int} {p : Nat} {inc : Int} (hf : -1 ≤ fl) (h : kpB (atC zs p inc) fl l = false) : keepsA l fl zs p inc = false := by
  by_cases hc : acode l fl (okC zs p inc) = 0
  · obtain ⟨h1, _, h3⟩ := acode_ok hc
    rw [keepsA_ok h1 hf h3]; exact h
  · unfold keepsA
    rw [decide_eq_false hc, Bool.and_false]
/-- What stands in memory: the curve's box, its row, the trace. -/
structure CfS (V : World) (F : Nat) (af : Option Addr) (nf capf : Nat) (zs : List Int) (p : Nat) (inc : Int) (a1 : Option Addr) (n1 c1 : Nat) (l : List Pk) (w : World) : Prop where
  f0 : w.cell? ⟨F, 0, none⟩ = some (.slice af nf capf)
  f1 : w.cell? ⟨F, 1, none⟩ = some (.int .i64 p)
  f2 : w.cell? ⟨F, 2, none⟩ = some (.int .i64 inc)
  row : RowZ w af nf capf zs
  pk : PkR w a1 n1 c1 l
  below : Below V.heap.size V w
theorem CfS.call {V : World} {F : Nat} {af : Option Addr} {nf capf : Nat} {zs : List Int} {p : Nat} {inc : Int} {a1 : Option Addr} {n1 c1 : Nat} {l : List Pk} {w u : World} (h : CfS V F af nf capf zs p inc a1 n1 c1 l w) (hb : Below w.heap.size w u) : CfS V F af nf capf zs p inc a1 n1 c1 l u :=
  ⟨(hb.cell (lt_of_cell h.f0)).trans h.f0, (hb.cell (lt_of_cell h.f1)).trans h.f1, (hb.cell (lt_of_cell h.f2)).trans h.f2, h.row.under hb, h.pk.under hb, h.below.trans (hb.mono h.below.size)⟩

set_option maxRecDepth 100000 in
set_option maxHeartbeats 6400000 in
theorem conformShapes_walk (W : World) (a : Option Addr) (n cap : Nat) (hrow : RowAt W a n cap) :
    Calls Try.prog 11 #[.slice a n cap] W fun e w' => e = .returned (.bool true) ∧ Below W.heap.size W w' := by
  have HR := Lib.hid hrow
  clear hrow
  go_enter Try.func11, Try.ntmps11
  go_wp2_with fail
  refine (new_any a n cap _ HR.out).mono ?_
  rintro e ww1 ⟨rfl, hb1, hz1', ra, rn, rc, hs1⟩
  have HB1 := Lib.hid hb1
  have HS1 := Lib.hid hs1
  have hbl : W.heap.size < ww1.heap.size := by omega
  clear hb1 hz1' hs1
  go_wp2_with fail
  refine (traffic14 8 (by omega) 2 9 (by decide) (by decide) _ ra rn rc _ HS1.out).mono ?_
  rintro e ww2 ⟨lp, a1, n1, c1, rfl, hdr, hs2, he2, hr2, hx2⟩
  have HD := Lib.hid hdr
  have HH2 := Lib.hid ((Hld13.start HS1.out).call hs2 he2)
  have R2 := Lib.hid hr2
  have X2 := Lib.hid (show ∀ x, a1 = some x → ¬ x.block = W.heap.size from fun x hx => by have := hx2 x hx; omega)
  clear hdr hs2 he2 hr2 hx2
  go_wp2_with fail
  refine (zero_any3 6 (by omega) (by omega) _ ra rn rc _ (HH2.out.at HS1.out)).mono ?_
  rintro e ww3 ⟨af, nf, capf, zs, p, inc, rfl, hs3, he3, hr3, hg3, hf3, h03, hsm3, hx3⟩
  have HH3 := Lib.hid (HH2.out.call hs3 he3)
  have P3 := Lib.hid (pkR_apart14 R2.out he3 X2.out)
  have Q3 := Lib.hid hr3
  have hp1 := hg3.p1
  have hp2 := hg3.p2
  have hi0 := hg3.i0
  have hi1 : inc ≤ 1000 := hsm3.1.1.2.2.1
  have hp8 : p ≤ 8 := hsm3.1.1.2.1
  have g' := good_more hg3 hf3 (show (0 : Int) ≤ (p : Int) by omega) (by omega)
  have HG := Lib.hid g'
  have hwi : IntKind.i64.wrap (inc + (p : Int)) = inc + (p : Int) := IntWalk.i64_in _ ⟨by omega, by omega⟩
  clear hs3 he3 hr3 hg3 hf3 h03 hx3 R2 g'
  go_upto_region 5 with fail
  obtain ⟨V, hV⟩ : ∃ V, ww3.alloc (.cells #[.slice af nf capf, .int .i64 p, .int .i64 (inc + (p : Int))] 26) = V := ⟨_, rfl⟩
  obtain ⟨inc2, hinc2⟩ : ∃ inc2, inc + (p : Int) = inc2 := ⟨_, rfl⟩
  rw [hinc2] at HG hV ⊢
  obtain ⟨E, hE⟩ : ∃ E, atC zs p inc2 = E := ⟨_, rfl⟩
  have HE := Lib.hid hE
  have hbV : Below ww3.heap.size ww3 V := by rw [← hV]; exact (Below.refl _ _).alloc (Nat.le_refl _) _
  have HI := Lib.hid (show In64 ((p : Nat) : Int) ∧ In64 inc2 ∧ okC zs p inc2 = true from ⟨⟨by omega, by omega⟩, ⟨by omega, by omega⟩, (okC_iff zs p inc2).2 HG.out⟩)
  have HHV := Lib.hid (hld14_below HH3.out hbV)
  have HS0 := Lib.hid (show CfS V ww3.heap.size af nf capf zs p inc2 a1 n1 c1 lp V from by
    rw [← hV]
    exact ⟨cell_new13 rfl, cell_new13 rfl, cell_new13 rfl, Q3.out.under ((Below.refl _ _).alloc (Nat.le_refl _) _), P3.out.under ((Below.refl _ _).alloc (Nat.le_refl _) _), Below.refl _ _⟩)
  have HVC := Lib.hid (HD.out.vcode (by omega) (by omega) (by omega))
  have HFIN := Lib.hid (show ∀ wx, Below V.heap.size V wx → Below W.heap.size W wx from fun wx hx => HB1.out.trans ((hld14_below HHV.out hx).ap.below (Nat.le_refl _) HB1.out.size))
  rw [hV]
  clear hV hE hbV hwi hp1 hp2 hi0 hi1 hp8 hsm3 hinc2 HH2 HH3 P3 Q3 HD
  obtain ⟨F, hF⟩ : ∃ F, ww3.heap.size = F := ⟨_, rfl⟩
  rw [hF] at HS0 ⊢
  clear hF
  obtain ⟨x0, x1, x2⟩ := And.intro HS0.out.f0 (And.intro HS0.out.f1 HS0.out.f2)
  obtain ⟨o, ho⟩ : ∃ o, shL E 0 [] lp = o := ⟨_, rfl⟩
  have hsh := shape14 a1 n1 c1 lp 0 HVC.out (by decide) af nf capf zs p inc2 HI.out.1 HI.out.2.1 HG.out o (by rw [HE.out]; exact ho) V HS0.out.pk HS0.out.row
  have HSH := Lib.hid hsh
  clear hsh
  cases o with
  | none =>
    clear ho
    go_wp2_with fail
    refine HSH.out.mono ?_
    rintro e ww4 ⟨a4, n4, c4, rfl, hb4, _, _⟩
    have HB4 := Lib.hid hb4
    clear hb4
    rw [show shapeC none = 5 from rfl]
    go_wp2_with (go_at_call 55; refine (awake14 _).mono ?_; rintro e ww5 ⟨rfl, hb5⟩; have HB5 := Lib.hid (HB4.out.trans (hb5.mono HB4.out.size)); clear hb5)
    go_ret
    exact ⟨rfl, HFIN.out _ HB5.out⟩
  | some M =>
    have HSP := Lib.hid (shaped (vcode_ok HVC.out).2.2 (vcode_ok HVC.out).2.1 ho)
    clear ho
    go_wp2_with fail
    refine HSH.out.mono ?_
    rintro e ww4 ⟨a4, n4, c4, rfl, hb4, hr4, hx4⟩
    rw [show shapeC (some M) = 0 from rfl]
    obtain ⟨lq, hlq⟩ : ∃ lq, isort M = lq := ⟨_, rfl⟩
    have HR4 := Lib.hid (show PkR ww4 a4 n4 c4 lq from by rw [← hlq]; exact hr4)
    rw [hlq] at HSP
    have HS4 := Lib.hid (HS0.out.call hb4)
    have HVQ := Lib.hid (vcode_of (by rw [HSP.out.len]; exact (vcode_ok HVC.out).1) HSP.out.ok HSP.out.asc)
    clear hb4 hr4 hx4 hlq x0 x1 x2 HSH
    obtain ⟨x0, x1, x2⟩ := And.intro HS4.out.f0 (And.intro HS4.out.f1 HS4.out.f2)
    have hsh := shape14 a4 n4 c4 lq 0 HVQ.out (by decide) af nf capf zs p inc2 HI.out.1 HI.out.2.1 HG.out (some lq) (by rw [HE.out]; exact HSP.out.again) ww4 HR4.out HS4.out.row
    rw [show shapeC (some lq) = 0 from rfl, show shapeL (some lq) = lq from isort_id lq HSP.out.asc] at hsh
    have HSH := Lib.hid hsh
    clear hsh
    go_wp2_with fail
    refine HSH.out.mono ?_
    rintro e ww5 ⟨a5, n5, c5, rfl, hb5, hr5, hx5⟩
    have HS5 := Lib.hid (HS4.out.call hb5)
    have HR5 := Lib.hid (And.intro (HR4.out.under hb5) hr5)
    clear hb5 hr5 hx5 x0 x1 x2 HSH HS4 HR4
    go_wp2_with fail
    refine (rselect13 a1 n1 c1 lp 0 _ HS5.out.pk).mono ?_
    rintro e ww6 ⟨a6, n6, c6, rfl, hb6, hr6, hx6⟩
    have HS6 := Lib.hid (HS5.out.call hb6)
    have HR6 := Lib.hid (And.intro (HR5.out.1.under hb6) (And.intro (HR5.out.2.under hb6) hr6))
    clear hb6 hr6 hx6 HS5 HR5
    go_wp2_with fail
    refine (rselect13 a4 n4 c4 lq 0 _ HR6.out.1).mono ?_
    rintro e ww7 ⟨a7, n7, c7, rfl, hb7, hr7, hx7⟩
    have HS7 := Lib.hid (HS6.out.call hb7)
    have HR7 := Lib.hid (And.intro (HR6.out.1.under hb7) (And.intro (HR6.out.2.1.under hb7) (And.intro (HR6.out.2.2.under hb7) hr7)))
    obtain rfl : n7 = n6 := by rw [← hr7.len, ← HR6.out.2.2.len]; exact HSP.out.own
    clear hb7 hr7 hx7 HS6 HR6
    go_wp2_with fail
    refine (rsame13_any a4 n4 c4 lq a5 n5 c5 lq true (pkEq_self lq) _ HR7.out.1 HR7.out.2.1).mono ?_
    rintro e ww8 ⟨rfl, m8, rfl⟩
    obtain ⟨ww8, hu8⟩ : ∃ ww8, ww7.drewN m8 = ww8 := ⟨_, rfl⟩
    have hb8 : Below ww7.heap.size ww7 ww8 := by rw [← hu8]; exact (Below.refl _ _).drewN _
    have HS8 := Lib.hid (HS7.out.call hb8)
    have HR8 := Lib.hid (And.intro (HR7.out.1.under hb8) (And.intro (HR7.out.2.2.1.under hb8) (HR7.out.2.2.2.under hb8)))
    rw [hu8]
    clear hu8 hb8 HS7 HR7
    obtain ⟨x0, x1, x2⟩ := And.intro HS8.out.f0 (And.intro HS8.out.f1 HS8.out.f2)
    have HK := Lib.hid (keeps14 a4 n4 c4 lq 0 af nf capf zs p inc2 HI.out.1 HI.out.2.1 true (by rw [keepsA_ok HVQ.out (by decide) HI.out.2.2, HE.out]; exact HSP.out.keeps) ww8 HR8.out.1 HS8.out.row)
    go_wp2_with fail
    refine HK.out.mono ?_
    rintro e ww9 ⟨rfl, hb9⟩
    have HS9 := Lib.hid (HS8.out.call hb9)
    have HR9 := Lib.hid (And.intro (HR8.out.1.under hb9) (And.intro (HR8.out.2.1.under hb9) (HR8.out.2.2.under hb9)))
    clear hb9 HS8 HR8 HK x0 x1 x2
    go_wp2_with fail
    refine (rselect13 a1 n1 c1 lp 1 _ HS9.out.pk).mono ?_
    rintro e ww10 ⟨a10, n10, c10, rfl, hb10, hr10, hx10⟩
    have HS10 := Lib.hid (HS9.out.call hb10)
    have HR10 := Lib.hid (And.intro (HR9.out.1.under hb10) (And.intro (HR9.out.2.1.under hb10) (And.intro (HR9.out.2.2.under hb10) hr10)))
    clear hb10 hr10 hx10 HS9 HR9
    go_wp2_with fail
    refine (rselect13 a4 n4 c4 lq 1 _ HR10.out.1).mono ?_
    rintro e ww11 ⟨a11, n11, c11, rfl, hb11, hr11, hx11⟩
    have HS11 := Lib.hid (HS10.out.call hb11)
    have HR11 := Lib.hid (And.intro (HR10.out.2.1.under hb11) (And.intro (HR10.out.2.2.1.under hb11) (And.intro (HR10.out.2.2.2.under hb11) hr11)))
    clear hb11 hr11 hx11 HS10 HR10
    go_wp2_with fail
    refine (rsame13_any a10 n10 c10 (sel 1 lp) a11 n11 c11 (sel 1 lq) true (by rw [HSP.out.other]; exact pkEq_self _) _ HR11.out.2.2.1 HR11.out.2.2.2).mono ?_
    rintro e ww12 ⟨rfl, m12, rfl⟩
    obtain ⟨ww12, hu12⟩ : ∃ ww12, ww11.drewN m12 = ww12 := ⟨_, rfl⟩
    have hb12 : Below ww11.heap.size ww11 ww12 := by rw [← hu12]; exact (Below.refl _ _).drewN _
    have HS12 := Lib.hid (HS11.out.call hb12)
    have HR12 := Lib.hid (And.intro (HR11.out.1.under hb12) (HR11.out.2.1.under hb12))
    rw [hu12]
    clear hu12 hb12 HS11 HR11
    go_wp2_with fail
    obtain ⟨la, hla⟩ : ∃ la, sel 0 lp = la := ⟨_, rfl⟩
    obtain ⟨lb, hlb⟩ : ∃ lb, sel 0 lq = lb := ⟨_, rfl⟩
    have HAT := Lib.hid (And.intro HSP.out.at' (And.intro HSP.out.early (And.intro HSP.out.own (show ∀ x ∈ sel 0 lq, okP x = true from fun x hx => HSP.out.ok x (List.mem_filter.1 hx).1))))
    rw [hla, hlb] at HAT HR12
    have HRA := Lib.hid (And.intro HR12.out.1 HR12.out.2)
    have HXM := Lib.hid (show ∀ x ∈ la, x ∈ sel 0 lp from fun x hx => by rw [hla]; exact hx)
    have hn60 : n7 ≤ 60 := by
      rw [← HRA.out.1.len, ← hla]
      exact Nat.le_trans (sel_le 0 lp) (vcode_ok HVC.out).1
    have hcb := HRA.out.2.le
    have hcm := HRA.out.2.cm
    clear hla hlb HR12 HSP
    go_loopw [80] (fun s80 wx => ∃ i : Nat, s80 = .int .i64 i ∧ i ≤ n7 ∧ Hid (Below ww12.heap.size ww12 wx)) (fun s80 _ => n7 - (intOf s80).toNat)
    case atStart => exact ⟨0, by go_num, Nat.zero_le _, Below.refl _ _⟩
    case round =>
      obtain ⟨i, rfl, hi, HW⟩ := hrel
      obtain ⟨wk, rfl⟩ : ∃ u : World, u = wr := ⟨_, rfl⟩
      by_cases hlt : i < n7
      · have hlI : (i : Int) < (n7 : Int) := by omega
        obtain ⟨Ba, oa, x, ha, hca, hx, _⟩ := (HRA.out.1.under HW.out).at hlt
        obtain ⟨Bb, ob, y, hb, hcb2, hy, hybd⟩ := (HRA.out.2.under HW.out).at hlt
        obtain ⟨_, p1, p2⟩ := hca i x hx
        obtain ⟨_, q1, q2⟩ := hcb2 i y hy
        obtain ⟨hys, hyt⟩ := HAT.out.1 i x y hx hy
        have HXY := Lib.hid (And.intro hx (And.intro hy hca))
        have HCB := Lib.hid hcb2
        have hlt2 : decide (y.t < x.t) = false := decide_eq_false (by omega)
        have hne2 : (y.s != x.s) = false := by simp [hys]
        have hss : y.s = x.s := hys
        subst ha hb
        clear hca hcb2 hx hy hybd
        have HSS := Lib.hid hss
        rw [hss] at q2
        clear hss hys hne2
        have HYT := Lib.hid hyt
        have hyt3 : ¬ y.t < x.t := by omega
        clear hyt hlt2
        go_wp2_with fail
        go_quiet (fail)
        go_wp2_with fail
        obtain ⟨w1, hw1⟩ : ∃ w1, wk.drewN nq = w1 := ⟨_, rfl⟩
        have HW1 := Lib.hid (show Below ww12.heap.size ww12 w1 from by rw [← hw1]; exact HW.out.drewN _)
        have p1' : w1.cell? ⟨Ba, oa + i * 3 + 1, none⟩ = some (.int .i64 x.t) := by rw [← hw1]; exact p1
        have q1' : w1.cell? ⟨Bb, ob + i * 3 + 1, none⟩ = some (.int .i64 y.t) := by rw [← hw1]; exact q1
        rw [hw1]
        clear hw1 p1 p2 q1 q2
        by_cases hyx : y.t = x.t
        · have hb1 : (y.t == x.t) = true := by simp [hyx]
          clear hyx
          go_quiet (fail)
          go_wp2_with fail
          go_roundw
          case rel => exact ⟨i + 1, by go_num, by omega, HW1.out.drewN _⟩
          case measure => first | (simp [intOf]; done) | (simp [intOf]; omega)
        · have hb1 : (y.t == x.t) = false := by simp [hyx]
          have HNE := Lib.hid hyx
          clear hyx
          by_cases hi0 : i = 0
          · have hi0I : ¬ (0 : Int) < (i : Int) := by omega
            have hi0N : ¬ 0 < i := by omega
            have hi0D : decide (0 < i) = false := decide_eq_false (by omega)
            have HEA := Lib.hid (HAT.out.2.1 i x y HXY.out.1 HXY.out.2.1 HNE.out (Or.inl hi0))
            clear hi0
            go_quiet (fail)
            go_upto_region 18 with fail
            obtain ⟨w2, hw2⟩ : ∃ w2, w1.drewN nq = w2 := ⟨_, rfl⟩
            have HW2 := Lib.hid (show Below ww12.heap.size ww12 w2 from by rw [← hw2]; exact HW1.out.drewN _)
            rw [hw2]
            clear hw2 p1' q1'
            obtain ⟨m, hm⟩ : ∃ m : Nat, i + 1 = m := ⟨_, rfl⟩
            have eM : (i : Int) + 1 = (m : Int) := by omega
            have hwm : IntKind.i64.wrap (m : Int) = (m : Int) := IntWalk.i64_in _ ⟨by omega, by omega⟩
            have hmn : m ≤ n7 := by omega
            have hmc : m ≤ c7 := by omega
            have hmcI : (m : Int) ≤ (c7 : Int) := by omega
            have hm0 : (0 : Int) ≤ (m : Int) := by omega
            have hmneg : ¬ (m : Int) < 0 := by omega
            have hlm : (i : Int) < (m : Int) := by omega
            have hcut := ((HRA.out.2.under HW2.out).cut hmn).under ((Below.refl _ w2).alloc (Nat.le_refl _) (.cells #[] 76))
            have HCUT := Lib.hid hcut
            have HM := Lib.hid (And.intro hm hmn)
            have hm60 : m ≤ 60 := by omega
            clear hcut hm hmn
            go_wp2_with (at_builtin; refine wpList_append_pk rfl _ _ rfl w2.heap.size _ 0 [] rfl (World.ownsRow_made w2 #[] 0 (Nat.le_refl _) (Nat.zero_le _) rfl) (some ⟨Bb, ob, none⟩) m c7 (lb.take m) rfl HCUT.out (by omega) (by simp) ?_)
            intro v' w3 ho' hb'
            obtain ⟨hl3, a9, c9, hv, g1, g2, g3, g4⟩ := pkO_of_owns (show w3.ownsRow w2.heap.size 76 3 v' m (pkV (lb.take m)) from by first | exact ho' | (have := ho'; rwa [Nat.zero_add, List.nil_append] at this))
            have HW3 := Lib.hid (show Below w2.heap.size w2 w3 from ((Below.refl _ w2).alloc (Nat.le_refl _) _).trans hb')
            have hyl : (lb.take m)[i]? = some y := by rw [List.getElem?_take, if_pos (by have := HM.out.1; omega)]; exact HXY.out.2.1
            obtain ⟨g, rfl, hgb, hpo⟩ : ∃ g, a9 = some ⟨g, 0, none⟩ ∧ w2.heap.size ≤ g ∧ PkO w3 g 0 (lb.take m) := by
              rcases g4 with ⟨_, h0⟩ | h
              · exfalso; have := HM.out.1; omega
              · exact h
            subst hv
            obtain ⟨_, d1, _⟩ := hpo.cells i y hyl
            have fg := hpo.frozen
            have hyo := (okP_iff y).1 (HAT.out.2.2.2 y (List.mem_of_getElem? HXY.out.2.1))
            have hyw : IntKind.i64.wrap (y.t - 1) = y.t - 1 := IntWalk.i64_in _ ⟨by omega, by omega⟩
            simp only [Nat.zero_add] at d1
            have hst := hpo.setT (i := i) hyl (y.t - 1)
            have hset : (lb.take m).set i ⟨y.f, y.t - 1, y.s⟩ = lb.take i ++ [⟨y.f, y.t - 1, y.s⟩] := by
              rw [← HM.out.1, List.take_add_one, HXY.out.2.1]
              rw [List.set_append_right _ _ (by rw [List.length_take]; omega), List.length_take, Nat.min_eq_left (by have := (List.getElem?_eq_some_iff.1 HXY.out.2.1).1; omega), Nat.sub_self]
              rfl
            rw [hset, Nat.zero_add] at hst
            have HST := Lib.hid (And.intro hst (And.intro hgb (And.intro g1 (And.intro g2 (show 1 ≤ y.t ∧ y.t ≤ 2000 from by have := HYT.out; have := HNE.out; have := (okP_iff x).1 ((vcode_ok HVC.out).2.1 x (List.mem_filter.1 (HXM.out x (List.mem_of_getElem? HXY.out.1))).1); omega)))))
            clear ho' hb' hl3 g1 g2 g3 g4 hyl hgb hpo hyo hst hset
            go_upto_region 20 with fail
            obtain ⟨w4, hw4⟩ : ∃ w4, w3.setCell ⟨g, i * 3 + 1, none⟩ (.int .i64 (y.t - 1)) = w4 := ⟨_, rfl⟩
            have hb4 : Below w2.heap.size w2 w4 := by rw [← hw4]; exact HW3.out.setCell (p := ⟨g, i * 3 + 1, none⟩) HST.out.2.1 _
            have hS4 := HS12.out.call (HW2.out.trans (hb4.mono HW2.out.size))
            have hP4 : PkO w4 g 0 (lb.take i ++ [⟨y.f, y.t - 1, y.s⟩]) := by rw [← hw4]; exact HST.out.1
            have hR4 : PkR w4 (some ⟨g, 0, none⟩) m c9 (lb.take i ++ [⟨y.f, y.t - 1, y.s⟩]) := ⟨by rw [List.length_append, List.length_take]; simp; have := HM.out.1; have := (List.getElem?_eq_some_iff.1 HXY.out.2.1).1; omega, HST.out.2.2.1, by omega, HST.out.2.2.2.1, .inr ⟨g, 0, rfl, hP4.cells⟩, fun r hr => by
              have hyo := (okP_iff y).1 (HAT.out.2.2.2 y (List.mem_of_getElem? HXY.out.2.1))
              rcases List.mem_append.1 hr with e | e
              · exact okP_64 (HAT.out.2.2.2 r (List.mem_of_mem_take e))
              · have := HST.out.2.2.2.2
                rw [List.mem_singleton.1 e]; exact ⟨⟨by show _ ≤ y.f; omega, by show y.f ≤ _; omega⟩, ⟨by show _ ≤ y.t - 1; omega, by show y.t - 1 ≤ _; omega⟩, ⟨by show _ ≤ y.s; omega, by show y.s ≤ _; omega⟩⟩⟩
            try rw [hw4]
            have HB4 := Lib.hid (HW2.out.trans (hb4.mono HW2.out.size))
            obtain ⟨x0, x1, x2⟩ := And.intro hS4.f0 (And.intro hS4.f1 hS4.f2)
            have HK := Lib.hid (keeps14 (some ⟨g, 0, none⟩) m c9 (lb.take i ++ [⟨y.f, y.t - 1, y.s⟩]) 0 af nf capf zs p inc2 HI.out.1 HI.out.2.1 false (by refine keepsA_no (by decide) ?_; rw [HE.out]; exact HEA.out) w4 hR4 hS4.row)
            clear hw4 hb4 hS4 hP4 hR4 d1 fg
            go_wp2_with fail
            refine HK.out.mono ?_
            rintro e w5 ⟨rfl, hb5⟩
            have HB5 := Lib.hid (HB4.out.trans (hb5.mono HB4.out.size))
            clear hb5
            go_wp2_with fail
            go_roundw
            case rel => exact ⟨i + 1, by go_num, by have := HM.out; omega, HB5.out⟩
            case measure => first | (simp [intOf]; done) | (simp [intOf]; have := HM.out; omega)
          · obtain ⟨j, hj⟩ : ∃ j, i = j + 1 := ⟨i - 1, by omega⟩
            obtain ⟨B', o', z, hb', hcz, hz, _⟩ := (HRA.out.2.under HW1.out).at (show j < n7 by omega)
            cases hb'
            obtain ⟨_, r1, _⟩ := hcz j z hz
            have hi0I : (0 : Int) < (i : Int) := by omega
            have hi0N : 0 < i := by omega
            have hi0D : decide (0 < i) = true := decide_eq_true (by omega)
            have hjn : (j : Int) < (n7 : Int) := by omega
            have hij : (i : Int) - 1 = (j : Int) := by omega
            have hjw2 : IntKind.i64.wrap (j : Int) = (j : Int) := IntWalk.i64_in _ ⟨by omega, by omega⟩
            have HJ := Lib.hid hj
            by_cases hyz : y.t = z.t
            · have hb2 : (y.t == z.t) = true := by simp [hyz]
              clear hyz hz hcz hi0 hj
              go_quiet (fail)
              go_wp2_with fail
              go_roundw
              case rel => exact ⟨i + 1, by go_num, by omega, HW1.out.drewN _⟩
              case measure => first | (simp [intOf]; done) | (simp [intOf]; omega)
            · have hb2 : (y.t == z.t) = false := by simp [hyz]
              have HEA := Lib.hid (HAT.out.2.1 i x y HXY.out.1 HXY.out.2.1 HNE.out (Or.inr (fun z' hz' => by rw [hj, Nat.add_sub_cancel, hz] at hz'; cases hz'; exact hyz)))
              clear hyz hz hcz hi0 hj
              go_quiet (fail)
              go_upto_region 18 with fail
              obtain ⟨w2, hw2⟩ : ∃ w2, w1.drewN nq = w2 := ⟨_, rfl⟩
              have HW2 := Lib.hid (show Below ww12.heap.size ww12 w2 from by rw [← hw2]; exact HW1.out.drewN _)
              rw [hw2]
              clear hw2 p1' q1'
              obtain ⟨m, hm⟩ : ∃ m : Nat, i + 1 = m := ⟨_, rfl⟩
              have eM : (i : Int) + 1 = (m : Int) := by omega
              have hwm : IntKind.i64.wrap (m : Int) = (m : Int) := IntWalk.i64_in _ ⟨by omega, by omega⟩
              have hmn : m ≤ n7 := by omega
              have hmc : m ≤ c7 := by omega
              have hmcI : (m : Int) ≤ (c7 : Int) := by omega
              have hm0 : (0 : Int) ≤ (m : Int) := by omega
              have hmneg : ¬ (m : Int) < 0 := by omega
              have hlm : (i : Int) < (m : Int) := by omega
              have hcut := ((HRA.out.2.under HW2.out).cut hmn).under ((Below.refl _ w2).alloc (Nat.le_refl _) (.cells #[] 76))
              have HCUT := Lib.hid hcut
              have HM := Lib.hid (And.intro hm hmn)
              have hm60 : m ≤ 60 := by omega
              clear hcut hm hmn
              go_wp2_with (at_builtin; refine wpList_append_pk rfl _ _ rfl w2.heap.size _ 0 [] rfl (World.ownsRow_made w2 #[] 0 (Nat.le_refl _) (Nat.zero_le _) rfl) (some ⟨Bb, ob, none⟩) m c7 (lb.take m) rfl HCUT.out (by omega) (by simp) ?_)
              intro v' w3 ho' hb'
              obtain ⟨hl3, a9, c9, hv, g1, g2, g3, g4⟩ := pkO_of_owns (show w3.ownsRow w2.heap.size 76 3 v' m (pkV (lb.take m)) from by first | exact ho' | (have := ho'; rwa [Nat.zero_add, List.nil_append] at this))
              have HW3 := Lib.hid (show Below w2.heap.size w2 w3 from ((Below.refl _ w2).alloc (Nat.le_refl _) _).trans hb')
              have hyl : (lb.take m)[i]? = some y := by rw [List.getElem?_take, if_pos (by have := HM.out.1; omega)]; exact HXY.out.2.1
              obtain ⟨g, rfl, hgb, hpo⟩ : ∃ g, a9 = some ⟨g, 0, none⟩ ∧ w2.heap.size ≤ g ∧ PkO w3 g 0 (lb.take m) := by
                rcases g4 with ⟨_, h0⟩ | h
                · exfalso; have := HM.out.1; omega
                · exact h
              subst hv
              obtain ⟨_, d1, _⟩ := hpo.cells i y hyl
              have fg := hpo.frozen
              have hyo := (okP_iff y).1 (HAT.out.2.2.2 y (List.mem_of_getElem? HXY.out.2.1))
              have hyw : IntKind.i64.wrap (y.t - 1) = y.t - 1 := IntWalk.i64_in _ ⟨by omega, by omega⟩
              simp only [Nat.zero_add] at d1
              have hst := hpo.setT (i := i) hyl (y.t - 1)
              have hset : (lb.take m).set i ⟨y.f, y.t - 1, y.s⟩ = lb.take i ++ [⟨y.f, y.t - 1, y.s⟩] := by
                rw [← HM.out.1, List.take_add_one, HXY.out.2.1]
                rw [List.set_append_right _ _ (by rw [List.length_take]; omega), List.length_take, Nat.min_eq_left (by have := (List.getElem?_eq_some_iff.1 HXY.out.2.1).1; omega), Nat.sub_self]
                rfl
              rw [hset, Nat.zero_add] at hst
              have HST := Lib.hid (And.intro hst (And.intro hgb (And.intro g1 (And.intro g2 (show 1 ≤ y.t ∧ y.t ≤ 2000 from by have := HYT.out; have := HNE.out; have := (okP_iff x).1 ((vcode_ok HVC.out).2.1 x (List.mem_filter.1 (HXM.out x (List.mem_of_getElem? HXY.out.1))).1); omega)))))
              clear ho' hb' hl3 g1 g2 g3 g4 hyl hgb hpo hyo hst hset
              go_upto_region 20 with fail
              obtain ⟨w4, hw4⟩ : ∃ w4, w3.setCell ⟨g, i * 3 + 1, none⟩ (.int .i64 (y.t - 1)) = w4 := ⟨_, rfl⟩
              have hb4 : Below w2.heap.size w2 w4 := by rw [← hw4]; exact HW3.out.setCell (p := ⟨g, i * 3 + 1, none⟩) HST.out.2.1 _
              have hS4 := HS12.out.call (HW2.out.trans (hb4.mono HW2.out.size))
              have hP4 : PkO w4 g 0 (lb.take i ++ [⟨y.f, y.t - 1, y.s⟩]) := by rw [← hw4]; exact HST.out.1
              have hR4 : PkR w4 (some ⟨g, 0, none⟩) m c9 (lb.take i ++ [⟨y.f, y.t - 1, y.s⟩]) := ⟨by rw [List.length_append, List.length_take]; simp; have := HM.out.1; have := (List.getElem?_eq_some_iff.1 HXY.out.2.1).1; omega, HST.out.2.2.1, by omega, HST.out.2.2.2.1, .inr ⟨g, 0, rfl, hP4.cells⟩, fun r hr => by
                have hyo := (okP_iff y).1 (HAT.out.2.2.2 y (List.mem_of_getElem? HXY.out.2.1))
                rcases List.mem_append.1 hr with e | e
                · exact okP_64 (HAT.out.2.2.2 r (List.mem_of_mem_take e))
                · have := HST.out.2.2.2.2
                  rw [List.mem_singleton.1 e]; exact ⟨⟨by show _ ≤ y.f; omega, by show y.f ≤ _; omega⟩, ⟨by show _ ≤ y.t - 1; omega, by show y.t - 1 ≤ _; omega⟩, ⟨by show _ ≤ y.s; omega, by show y.s ≤ _; omega⟩⟩⟩
              try rw [hw4]
              have HB4 := Lib.hid (HW2.out.trans (hb4.mono HW2.out.size))
              obtain ⟨x0, x1, x2⟩ := And.intro hS4.f0 (And.intro hS4.f1 hS4.f2)
              have HK := Lib.hid (keeps14 (some ⟨g, 0, none⟩) m c9 (lb.take i ++ [⟨y.f, y.t - 1, y.s⟩]) 0 af nf capf zs p inc2 HI.out.1 HI.out.2.1 false (by refine keepsA_no (by decide) ?_; rw [HE.out]; exact HEA.out) w4 hR4 hS4.row)
              clear hw4 hb4 hS4 hP4 hR4 d1 fg
              go_wp2_with fail
              refine HK.out.mono ?_
              rintro e w5 ⟨rfl, hb5⟩
              have HB5 := Lib.hid (HB4.out.trans (hb5.mono HB4.out.size))
              clear hb5
              go_wp2_with fail
              go_roundw
              case rel => exact ⟨i + 1, by go_num, by have := HM.out; omega, HB5.out⟩
              case measure => first | (simp [intOf]; done) | (simp [intOf]; have := HM.out; omega)
      · obtain rfl : i = n7 := by omega
        have hlI : ¬ (i : Int) < (i : Int) := by omega
        go_wp2_with (go_at_call 55; refine (awake14 _).mono ?_; rintro e ww13 ⟨rfl, hb13⟩; have HB13 := Lib.hid ((HS12.out.call HW.out).below.trans (hb13.mono (HS12.out.call HW.out).below.size)); clear hb13)
        go_ret
        exact ⟨rfl, HFIN.out _ HB13.out⟩

end Go.Proofs.Ytknimlpdpgpliaa
