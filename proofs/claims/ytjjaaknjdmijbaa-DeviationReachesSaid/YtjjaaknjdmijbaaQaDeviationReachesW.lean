/- The walk of DeviationReaches. By the verifier's side. -/
import Derived.Test.YtjjaaknjdmijbaaQaDevH
namespace Go.Proofs.Ytjjaaknjdmijbaa
open Go.RowKit
set_option linter.unusedSimpArgs false
set_option linter.unusedVariables false

theorem reach_at {zs : List Int} {p : Nat} {inc v : Int} (g : Good zs p inc) (hv : 0 ≤ v ∧ v < 3000) (y : Nat) (hy : y ≤ 1048576) : ole (some v) (eC zs p inc y) ↔ v ≤ atC zs p inc y := by
  rcases eC_cases g hy with ⟨h1, h2⟩ | ⟨x, h1, h2, h3, h4⟩
  · rw [h1, h2]; exact ⟨fun _ => by unfold infV; omega, fun _ => ole_none _⟩
  · rw [h1, h2]; exact ole_some_iff

set_option maxRecDepth 100000 in
set_option maxHeartbeats 6400000 in
theorem deviationReaches_walk (W : World) (a : Option Addr) (n cap : Nat) (hrow : RowAt W a n cap) (val : Int) (hval : In64 val) :
    Calls Try.prog 8 #[.slice a n cap, .int .i64 val] W fun e w' => e = .returned (.bool true) ∧ Below W.heap.size W w' := by
  have HR := Lib.hid hrow
  have HVL := Lib.hid hval
  clear hrow hval
  go_enter Try.func8, Try.ntmps8
  go_wp2_with fail
  refine (new_any a n cap _ HR.out).mono ?_
  rintro e u1 ⟨rfl, hb1, hz1, ra, rn, rc, hs1⟩
  have HB1 := Lib.hid hb1
  have HS1 := Lib.hid hs1
  clear hb1 hz1 hs1
  go_wp2_with fail
  refine (curve_any 8 (by omega) (by omega) _ ra rn rc _ HS1.out).mono ?_
  rintro e u2 ⟨af, nf, capf, zf, pf, jf, rfl, hs, he, hr, ok, hx⟩
  obtain ⟨w0, hw⟩ : ∃ w', u2.alloc (.cells #[.slice af nf capf, .int .i64 pf, .int .i64 jf] 24) = w' := ⟨_, rfl⟩
  have OF := Lib.hid (And.intro ok.good (day_drawn ok))
  have hz : Below u2.heap.size u2 w0 := by rw [← hw]; exact below_box _
  have X0 := Lib.hid (show Bx w0 u2.heap.size af nf capf pf jf zf by rw [← hw]; exact Bx.new hr)
  have hbb := HB1.out.trans (he.below (Nat.le_refl _) HB1.out.size)
  have HB0 := Lib.hid (hbb.trans (hz.mono hbb.size))
  have HW := Lib.hid hw
  clear hs he hr ok hx hw hz hbb
  go_upto_region 3 with fail
  try rw [HW.out]
  obtain ⟨F, hF⟩ : ∃ F, u2.heap.size = F := ⟨_, rfl⟩
  rw [hF] at X0
  try rw [hF]
  clear hF HW
  go_wp2_with fail
  refine (mod_any val 3000 HVL.out (by omega) (by omega) _).mono ?_
  rintro e w' ⟨rfl, rfl⟩
  obtain ⟨v, hv⟩ : ∃ v, val % 3000 = v := ⟨_, rfl⟩
  have hvb : 0 ≤ v ∧ v < 3000 := by omega
  rw [hv]
  clear hv
  have HV := Lib.hid hvb
  obtain ⟨hv0, hv1⟩ := hvb
  obtain ⟨c0, c1, c2, c3, c4, c5⟩ := X0.out.box
  go_wp2_with fail
  clear c0 c1 c2 c3 c4 c5
  refine (reach1_ok af nf capf zf pf jf OF.out.1 (some v) (fun x hx => by cases hx; omega) v rfl _ X0.out.row).mono ?_
  rintro e w1 ⟨o, k, rfl, hb, hF, hk⟩
  have X1 := Lib.hid (X0.out.under hb)
  have HB1' := Lib.hid (HB0.out.trans (hb.mono HB0.out.size))
  have HF := Lib.hid hF
  clear hb hF X0
  cases o with
  | false =>
    obtain ⟨rfl, hno⟩ : k = 0 ∧ ∀ y, ¬ ole (some v) (eC zf pf jf y) := by
      rcases HF.out with ⟨e, _⟩ | ⟨_, h1, h2⟩
      · cases e
      · exact ⟨h1, h2⟩
    obtain ⟨x, hx⟩ : ∃ x, atC zf pf jf 1048576 = x := ⟨_, rfl⟩
    have hlt : x < v := by
      have := hno 1048576
      rw [reach_at OF.out.1 HV.out _ (Nat.le_refl _), hx] at this
      omega
    have t1 : decide (x < v) = true := decide_eq_true hlt
    have HX := Lib.hid hx
    clear hno hx
    obtain ⟨c0, c1, c2, c3, c4, c5⟩ := X1.out.box
    go_wp2_with fail
    clear c0 c1 c2 c3 c4 c5
    refine (value_at af nf capf zf pf jf OF.out.1 1048576 1048576 rfl (by omega) _ HX.out _ X1.out.row).mono ?_
    rintro e w2 ⟨rfl, hb⟩
    have X2 := Lib.hid (X1.out.under hb)
    have HB2 := Lib.hid (HB1'.out.trans (hb.mono HB1'.out.size))
    clear hb
    go_wp2_with fail
    refine (awake10 _).mono ?_
    rintro e y9 ⟨rfl, hb⟩
    have HBZ := Lib.hid (HB2.out.trans (hb.mono HB2.out.size))
    clear hb
    go_wp2_with fail
    go_ret
    exact ⟨rfl, HBZ.out⟩
  | true =>
    by_cases hk2 : (1048576 : Int) < (k : Int)
    · have t1 : decide ((1048576 : Int) < (k : Int)) = true := decide_eq_true hk2
      go_wp2_with fail
      refine (awake10 _).mono ?_
      rintro e y9 ⟨rfl, hb⟩
      have HBZ := Lib.hid (HB1'.out.trans (hb.mono HB1'.out.size))
      clear hb
      go_wp2_with fail
      go_ret
      exact ⟨rfl, HBZ.out⟩
    · have t1 : decide ((1048576 : Int) < (k : Int)) = false := decide_eq_false hk2
      obtain ⟨x, hx⟩ : ∃ x, atC zf pf jf k = x := ⟨_, rfl⟩
      have hge : ¬ x < v := by
        rcases HF.out with ⟨_, h1, _⟩ | ⟨e, _⟩
        · rw [reach_at OF.out.1 HV.out _ (by omega), hx] at h1; omega
        · cases e
      have t2 : decide (x < v) = false := decide_eq_false hge
      have HX := Lib.hid hx
      clear hx
      obtain ⟨c0, c1, c2, c3, c4, c5⟩ := X1.out.box
      go_wp2_with fail
      clear c0 c1 c2 c3 c4 c5
      refine (value_at af nf capf zf pf jf OF.out.1 k k rfl (by omega) _ HX.out _ X1.out.row).mono ?_
      rintro e w2 ⟨rfl, hb⟩
      have X2 := Lib.hid (X1.out.under hb)
      have HB2 := Lib.hid (HB1'.out.trans (hb.mono HB1'.out.size))
      clear hb
      by_cases hk0 : k = 0
      · subst hk0
        go_wp2_with fail
        refine (awake10 _).mono ?_
        rintro e y9 ⟨rfl, hb⟩
        have HBZ := Lib.hid (HB2.out.trans (hb.mono HB2.out.size))
        clear hb
        go_wp2_with fail
        go_ret
        exact ⟨rfl, HBZ.out⟩
      · have t3 : ((k : Int) == 0) = false := by simpa using hk0
        obtain ⟨q, hq⟩ : ∃ q : Nat, k = q + 1 := ⟨k - 1, by omega⟩
        have hqi : (k : Int) - 1 = (q : Int) := by omega
        obtain ⟨y, hy⟩ : ∃ y, atC zf pf jf q = y := ⟨_, rfl⟩
        have hlt : y < v := by
          rcases HF.out with ⟨_, _, h1⟩ | ⟨e, _⟩
          · have := h1 q (by omega)
            rw [reach_at OF.out.1 HV.out _ (by omega), hy] at this; omega
          · cases e
        have t4 : decide (y < v) = true := decide_eq_true hlt
        have HY := Lib.hid (And.intro hy (show q ≤ 1048576 by omega))
        clear hy hq hk0
        obtain ⟨c0, c1, c2, c3, c4, c5⟩ := X2.out.box
        go_wp2_with fail
        clear c0 c1 c2 c3 c4 c5
        refine (value_at af nf capf zf pf jf OF.out.1 (q : Int) q rfl HY.out.2 _ HY.out.1 _ X2.out.row).mono ?_
        rintro e w3 ⟨rfl, hb⟩
        have X3 := Lib.hid (X2.out.under hb)
        have HB3 := Lib.hid (HB2.out.trans (hb.mono HB2.out.size))
        clear hb
        go_wp2_with fail
        refine (awake10 _).mono ?_
        rintro e y9 ⟨rfl, hb⟩
        have HBZ := Lib.hid (HB3.out.trans (hb.mono HB3.out.size))
        clear hb
        go_wp2_with fail
        go_ret
        exact ⟨rfl, HBZ.out⟩

end Go.Proofs.Ytjjaaknjdmijbaa
