/- The walk of TraceSums. By the verifier's side. -/
import Derived.Test.YtenfhjmaljleoaaKTrY
namespace Go.Proofs.Ytenfhjmaljleoaa
open Go.RowKit
set_option linter.unusedSimpArgs false
set_option linter.unusedVariables false

theorem Hld13.belowS {w u v : World} {b : Nat} {a : Option Addr} {n cap : Nat} (h : Hld13 w b a n cap u) (hb : Below u.heap.size u v) : Hld13 w b a n cap v := by
  obtain ⟨k, hk, hs⟩ := h.src
  exact ⟨⟨k, hk, (hb.block b h.lt).trans hs⟩, h.ap.trans (below_apart hb)⟩
theorem PkR.apartS {u v : World} {a : Option Addr} {n cap b : Nat} {l : List Pk} (h : PkR u a n cap l) (ha : Apart b u v) (hb : ∀ x, a = some x → ¬ x.block = b) : PkR v a n cap l :=
  ⟨h.len, h.le, h.sm, h.cm, h.place.imp id fun ⟨B, off, he, hc⟩ => ⟨B, off, he, hc.apart ha (hb _ he)⟩, h.bd⟩
theorem Below.setS {base : Nat} {u v : World} (h : Below base u v) {p : Addr} (hp : base ≤ p.block) (x : Value) : Below base u (v.setCell p x) :=
  ⟨h.os, h.tape, h.output, by simpa using h.size, fun j hj => by rw [Below.heap_setCell _ _ _ _ (by omega)]; exact h.block j hj⟩
theorem Apart.setS {M : Nat} {u v : World} (h : Apart M u v) (i : Nat) (x : Value) : Apart M u (v.setCell ⟨M, i, none⟩ x) :=
  ⟨h.os, h.tape, h.output, by simpa using h.size, fun j hj hn => by rw [Below.heap_setCell _ _ _ _ hn]; exact h.block j hj hn⟩
/-- Halfway of a round: the first t sums have this flow, too. -/
def half (l : List Pk) (f t k : Nat) : Int := if k < t then upto l (f + 1) k else upto l f k
theorem half_zero (l : List Pk) (f k : Nat) : half l f 0 k = upto l f k := by unfold half; rw [if_neg (by omega)]
theorem half_step (l : List Pk) (f t k : Nat) : (if k = t then upto l f t + sumG (bytT (t : Int)) (sel (f : Int) l) else half l f t k) = half l f (t + 1) k := by
  unfold half
  by_cases e : k = t
  · subst e; rw [if_pos rfl, if_pos (by omega)]; rfl
  · rw [if_neg e]
    by_cases c : k < t
    · rw [if_pos c, if_pos (by omega)]
    · rw [if_neg c, if_neg (by omega)]

set_option maxRecDepth 100000 in
set_option maxHeartbeats 6400000 in
theorem traceSums_walk (W : World) (a : Option Addr) (n cap : Nat) (hrow : RowAt W a n cap) :
    Calls Try.prog 4 #[.slice a n cap] W fun e w' => e = .returned (.bool true) ∧ Below W.heap.size W w' := by
  have HR := Lib.hid hrow
  clear hrow
  go_enter Try.func4, Try.ntmps4
  go_wp2_with fail
  refine (new_any a n cap _ HR.out).mono ?_
  rintro e u1 ⟨rfl, hb1, hz1', ra, rn, rc, hs1⟩
  have HB1 := Lib.hid hb1
  have HS1 := Lib.hid hs1
  have hbl : W.heap.size < u1.heap.size := by omega
  clear hb1 hz1' hs1
  go_wp2_with fail
  refine (traffic13 12 (by omega) _ ra rn rc _ HS1.out).mono ?_
  rintro e u2 ⟨lp, a1, n1, c1, rfl, hdr, hs2, he2, hr2, hx2⟩
  have HD := Lib.hid hdr
  have HH2 := Lib.hid ((Hld13.start HS1.out).call hs2 he2)
  have R2 := Lib.hid hr2
  have X2 := Lib.hid (show ∀ x, a1 = some x → ¬ x.block = W.heap.size from fun x hx => by have := hx2 x hx; omega)
  clear hdr hs2 he2 hr2 hx2
  go_wp2_with fail
  refine (traffic13 12 (by omega) _ ra rn rc _ (HH2.out.at HS1.out)).mono ?_
  rintro e u3 ⟨lq, a2, n2, c2, rfl, hdq, hs3, he3, hr3, hx3⟩
  have HG := Lib.hid (HD.out.merged hdq (by omega))
  have HM := Lib.hid (HD.out.mcode hdq (by omega))
  have HH3 := Lib.hid (HH2.out.call hs3 he3)
  have P3 := Lib.hid (R2.out.apartS he3 X2.out)
  have Q3 := Lib.hid hr3
  clear hdq hs3 he3 hr3 hx3 R2
  have hm13 := merge13 a1 n1 c1 lp a2 n2 c2 lq
  rw [HM.out.1, HM.out.2] at hm13
  obtain ⟨lm, hlm⟩ : ∃ lm, isort (lp ++ lq) = lm := ⟨_, rfl⟩
  rw [hlm] at hm13 HG
  clear hlm
  have HM13 := Lib.hid hm13
  clear hm13
  go_wp2_with fail
  refine (HM13.out _ P3.out Q3.out).mono ?_
  rintro e u4 ⟨a4, n4, c4, rfl, hb4, hr4⟩
  have HH4 := Lib.hid (HH3.out.belowS hb4)
  have P4 := Lib.hid (P3.out.under hb4)
  have Q4 := Lib.hid (Q3.out.under hb4)
  have M4 := Lib.hid hr4
  clear hb4 hr4 P3 Q3 HH3 HM13 HM
  go_wp2_with fail
  refine (cumulative13 a1 n1 c1 lp (-1) 100 0 (cumC_ok HG.out.p (by omega)) _ (cumL_ok HG.out.p (by omega)) _ P4.out).mono ?_
  rintro e u5 ⟨a5, n5, c5, rfl, hb5, hr5, hx5⟩
  obtain rfl := hr5.sums
  have HH5 := Lib.hid (HH4.out.belowS hb5)
  have Q5 := Lib.hid (Q4.out.under hb5)
  have M5 := Lib.hid (M4.out.under hb5)
  have A5 := Lib.hid hr5
  clear hb5 hr5 hx5 P4 Q4 M4 HH4
  go_wp2_with fail
  refine (cumulative13 a2 n2 c2 lq (-1) 100 0 (cumC_ok HG.out.q (by omega)) _ (cumL_ok HG.out.q (by omega)) _ Q5.out).mono ?_
  rintro e u6 ⟨a6, n6, c6, rfl, hb6, hr6, hx6⟩
  obtain rfl := hr6.sums
  have HH6 := Lib.hid (HH5.out.belowS hb6)
  have M6 := Lib.hid (M5.out.under hb6)
  have A6 := Lib.hid (A5.out.under hb6)
  have B6 := Lib.hid hr6
  clear hb6 hr6 hx6 Q5 M5 A5 HH5
  go_wp2_with fail
  refine (cumulative13 a4 n4 c4 lm (-1) 100 0 (cumC_ok HG.out.m (by omega)) _ (cumL_ok HG.out.m (by omega)) _ M6.out).mono ?_
  rintro e u7 ⟨a7, n7, c7, rfl, hb7, hr7, hx7⟩
  obtain rfl := hr7.sums
  have HH7 := Lib.hid (HH6.out.belowS hb7)
  have M7 := Lib.hid (M6.out.under hb7)
  have A7 := Lib.hid (A6.out.under hb7)
  have B7 := Lib.hid (B6.out.under hb7)
  have C7 := Lib.hid hr7
  clear hb7 hr7 hx7 M6 A6 B6 HH6
  obtain ⟨x0, hx0, cx0⟩ := A7.out.sum (show 0 < 101 by omega)
  rw [sel_minus, bytT_zero (vcode_ok HG.out.p).2.1] at cx0
  rw [show x0.add 0 = x0 by simp [Addr.add]] at cx0
  subst hx0
  obtain ⟨x6, hx6, _⟩ := B7.out.sum (show 0 < 101 by omega)
  subst hx6
  obtain ⟨x7, hx7, _⟩ := C7.out.sum (show 0 < 101 by omega)
  subst hx7
  have hmk : ∀ u : World, (Instr.makeSlice 23 (.int .i64 101) (.int .i64 101)).run Try.prog u = .ok (.slice (some ⟨u.heap.size, 0, none⟩) 101 101) (u.alloc (.cells (madeCells #[.int .i64 0] 101) 3)) := fun u => make13 101 (by omega) u
  have HS0 := Lib.hid (SumB.made u7 101)
  obtain ⟨M, hM⟩ : ∃ M, u7.heap.size = M := ⟨_, rfl⟩
  have HU0 := Lib.hid (show Below M u7 (u7.alloc (.cells (madeCells #[.int .i64 0] 101) 3)) from by rw [← hM]; exact (Below.refl _ _).alloc (Nat.le_refl _) _)
  go_wp2_with fail
  go_loopw [15] (fun s15 wx => ∃ f : Nat, s15 = .int .i64 f ∧ f ≤ 3 ∧ Hid (SumB wx M 101 (upto lm f)) ∧ Hid (Below M u7 wx)) (fun s15 _ => 3 - (intOf s15).toNat)
  case atStart => exact ⟨0, by go_num, by omega, by rw [← hM]; exact HS0.out.congr (fun k _ => rfl), HU0⟩
  case round =>
    obtain ⟨f, rfl, hf, HS, HB⟩ := hrel
    obtain ⟨wk, rfl⟩ : ∃ u : World, u = wr := ⟨_, rfl⟩
    by_cases hlt : f < 3
    · have hfI : (f : Int) < 3 := by omega
      go_wp2_with fail
      refine (cumulative13 a4 n4 c4 lm (f : Int) 100 0 (cumC_ok HG.out.m (by omega)) _ (cumL_ok HG.out.m (by omega)) _ (M7.out.under (by rw [hM]; exact HB.out))).mono ?_
      rintro e w8 ⟨a8, n8, c8, rfl, hb8, hr8, hx8⟩
      obtain rfl := hr8.sums
      have hlM := HS.out.lt
      have X8 := Lib.hid (show ∀ x, a8 = some x → ¬ x.block = M from fun x hx => by have := hx8 x hx; omega)
      have R8 := Lib.hid hr8
      have S8 := Lib.hid (HS.out.under hb8)
      have B8 := Lib.hid (HB.out.trans (hb8.mono (by rw [← hM]; exact HB.out.size)))
      clear hb8 hr8 hx8 HB HS
      go_wp2_with fail
      go_loopw [102] (fun vi wx => ∃ t : Nat, vi = .int .i64 t ∧ t ≤ 101 ∧ Hid (SumB wx M 101 (half lm f t)) ∧ Hid (Apart M w8 wx)) (fun vi _ => 101 - (intOf vi).toNat)
      case atStart => exact ⟨0, by go_num, by omega, S8.out.congr (fun k _ => (half_zero lm f k).symm), Apart.refl _ _⟩
      case round =>
        obtain ⟨t, rfl, ht, HT, HA⟩ := hrel
        obtain ⟨wi, rfl⟩ : ∃ u : World, u = wr := ⟨_, rfl⟩
        by_cases htl : t < 101
        · have htI : (t : Int) < 101 := by omega
          have cS := HT.out.cell htl
          have fS := HT.out.frozen t
          obtain ⟨x, hx, cX⟩ := (rowZ_apart13 R8.out HA.out X8.out).sum htl
          have hfe : half lm f t t = upto lm f t := by unfold half; rw [if_neg (by omega)]
          rw [hfe] at cS
          have b1 := upto_bd HG.out.m f t
          have b2 := part_bd HG.out.m (f : Int) (t : Int)
          have HN := Lib.hid (HT.out.set htl (upto lm f t + sumG (bytT (t : Int)) (sel (f : Int) lm)))
          obtain ⟨p, hp⟩ : ∃ p, upto lm f t = p := ⟨_, rfl⟩
          obtain ⟨y, hy⟩ : ∃ y, sumG (bytT (t : Int)) (sel (f : Int) lm) = y := ⟨_, rfl⟩
          have HPY := Lib.hid (And.intro hp hy)
          rw [hp] at cS b1
          rw [hy] at cX b2
          have hp0 : 0 ≤ p := b1.1
          have hp1 : p ≤ 300000 := by omega
          have hy0 : 0 ≤ y := b2.1
          have hy1 : y ≤ 90000 := b2.2
          subst hx
          clear hp hy hfe b1 b2
          go_wp2_with fail
          go_region
          all_goals go_wp2_with fail
          go_roundw
          case rel => exact ⟨t + 1, by go_num, by omega, by rw [← HPY.out.1, ← HPY.out.2]; exact SumB.congr HN.out (fun k _ => half_step lm f t k), (HA.out.setS _ _).drew⟩
          case measure => first | (simp [intOf]; done) | (simp [intOf]; omega)
        · obtain rfl : t = 101 := by omega
          go_wp2_with fail
          go_roundw
          case rel => exact ⟨f + 1, by go_num, by omega, HT.out.congr (fun k hk => by unfold half; rw [if_pos hk]), B8.out.trans (HA.out.below (Nat.le_refl _) (Nat.le_of_lt S8.out.lt))⟩
          case measure => first | (simp [intOf]; done) | (simp [intOf]; omega)
    · obtain rfl : f = 3 := by omega
      have hBk : Below u7.heap.size u7 wk := by rw [hM]; exact HB.out
      have S9 := Lib.hid (HS.out.congr (fun k _ => upto_three HG.out.f k))
      have A9 := Lib.hid (A7.out.under hBk)
      have B9 := Lib.hid (B7.out.under hBk)
      have C9 := Lib.hid (C7.out.under hBk)
      have M9 := Lib.hid (M7.out.under hBk)
      have HH9 := Lib.hid (HH7.out.belowS hBk)
      clear HS hBk
      go_wp2_with fail
      go_loopw [118] (fun vi wx => ∃ t : Nat, vi = .int .i64 t ∧ t ≤ 101 ∧ Hid (Below wk.heap.size wk wx)) (fun vi _ => 101 - (intOf vi).toNat)
      case atStart => exact ⟨0, by go_num, by omega, Below.refl _ _⟩
      case round =>
        obtain ⟨t, rfl, ht, HT⟩ := hrel
        obtain ⟨wi, rfl⟩ : ∃ u : World, u = wr := ⟨_, rfl⟩
        by_cases htl : t < 101
        · have htI : (t : Int) < 101 := by omega
          obtain ⟨xa, hxa, cA⟩ := (A9.out.under HT.out).sum htl
          obtain ⟨xb, hxb, cB⟩ := (B9.out.under HT.out).sum htl
          obtain ⟨xc, hxc, cC⟩ := (C9.out.under HT.out).sum htl
          have cS := (S9.out.under HT.out).cell htl
          cases hxa
          cases hxb
          cases hxc
          rw [sel_minus] at cA cB cC
          rw [HG.out.s] at cC cS
          have b1 := part_bd HG.out.p (-1) (t : Int)
          have b2 := part_bd HG.out.q (-1) (t : Int)
          rw [sel_minus] at b1 b2
          by_cases t0 : t = 0
          · subst t0
            obtain ⟨p, hp⟩ : ∃ p, sumG (bytT (((0 : Nat) : Int) : Int)) lp = p := ⟨_, rfl⟩
            obtain ⟨q, hq⟩ : ∃ q, sumG (bytT (((0 : Nat) : Int) : Int)) lq = q := ⟨_, rfl⟩
            rw [hp] at cA cC cS b1
            rw [hq] at cB cC cS b2
            rw [show x0.add 0 = x0 by simp [Addr.add]] at cA
            rw [show x6.add 0 = x6 by simp [Addr.add]] at cB
            rw [show x7.add 0 = x7 by simp [Addr.add]] at cC
            have hp0 : 0 ≤ p := b1.1
            have hp1 : p ≤ 90000 := b1.2
            have hq0 : 0 ≤ q := b2.1
            have hq1 : q ≤ 90000 := b2.2
            have hwpq : IntKind.i64.wrap (p + q) = p + q := IntWalk.i64_in _ ⟨by omega, by omega⟩
            clear hp hq b1 b2
            go_wp2_with fail
            go_quiet (fail)
            go_wp2_with fail
            go_roundw
            case rel => exact ⟨0 + 1, by go_num, by omega, HT.out.drewN _⟩
            case measure => first | (simp [intOf]; done) | (simp [intOf]; omega)
          · obtain ⟨m, rfl⟩ : ∃ m, t = m + 1 := ⟨t - 1, by omega⟩
            clear htI
            have hmn : (m : Int) + 1 < 101 := by omega
            have hmn2 : (m : Int) < 101 := by omega
            have e0 : ((m : Int) + 1).toNat = m + 1 := by omega
            have p0 : (0 : Int) ≤ (m : Int) + 1 := by omega
            have p1 : (0 : Int) < (m : Int) + 1 := by omega
            have hwp : IntKind.i64.wrap (m : Int) = (m : Int) := IntWalk.i64_in _ ⟨by omega, by omega⟩
            obtain ⟨xd, hxd, cD⟩ := (C9.out.under HT.out).sum (show m < 101 by omega)
            cases hxd
            rw [sel_minus] at cD
            have hmo := bytT_mono (vcode_ok HG.out.m).2.1 (show (m : Int) ≤ ((m + 1 : Nat) : Int) by omega)
            rw [HG.out.s ((m + 1 : Nat) : Int)] at hmo
            obtain ⟨r, hr⟩ : ∃ r, sumG (bytT (m : Int)) lm = r := ⟨_, rfl⟩
            rw [hr] at cD hmo
            clear hr
            obtain ⟨p, hp⟩ : ∃ p, sumG (bytT (((m + 1 : Nat) : Int) : Int)) lp = p := ⟨_, rfl⟩
            obtain ⟨q, hq⟩ : ∃ q, sumG (bytT (((m + 1 : Nat) : Int) : Int)) lq = q := ⟨_, rfl⟩
            rw [hp] at cA cC cS b1
            rw [hq] at cB cC cS b2
            rw [hp, hq] at hmo
            have hmo2 : decide (p + q < r) = false := decide_eq_false (by omega)
            clear hmo
            change wi.cell? ⟨x0.block, x0.off + (m + 1), none⟩ = _ at cA
            change wi.cell? ⟨x6.block, x6.off + (m + 1), none⟩ = _ at cB
            change wi.cell? ⟨x7.block, x7.off + (m + 1), none⟩ = _ at cC
            have hp0 : 0 ≤ p := b1.1
            have hp1 : p ≤ 90000 := b1.2
            have hq0 : 0 ≤ q := b2.1
            have hq1 : q ≤ 90000 := b2.2
            have hwpq : IntKind.i64.wrap (p + q) = p + q := IntWalk.i64_in _ ⟨by omega, by omega⟩
            clear hp hq b1 b2
            go_wp2_with fail
            go_quiet (fail)
            go_wp2_with fail
            go_roundw
            case rel => exact ⟨m + 1 + 1, by go_num, by omega, HT.out.drewN _⟩
            case measure => first | (simp [intOf]; done) | (simp [intOf]; omega)
        · obtain rfl : t = 101 := by omega
          go_wp2_with fail
          refine (validate_any a4 n4 c4 lm 0 HG.out.m _ (M9.out.under HT.out)).mono ?_
          rintro e w10 ⟨rfl, hb10⟩
          have HH10 := Lib.hid ((HH9.out.belowS HT.out).belowS hb10)
          clear hb10
          go_wp2_with fail
          refine (awake13 _).mono ?_
          rintro e w11 ⟨rfl, hb11⟩
          have HH11 := Lib.hid (HH10.out.belowS hb11)
          clear hb11
          go_wp2_with fail
          go_ret
          exact ⟨rfl, HB1.out.trans (HH11.out.ap.below (Nat.le_refl _) HB1.out.size)⟩

end Go.Proofs.Ytenfhjmaljleoaa
