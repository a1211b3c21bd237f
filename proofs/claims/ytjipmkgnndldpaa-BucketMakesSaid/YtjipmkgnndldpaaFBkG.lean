/- Small buckets and staircases, and the examples of the chapter. By the verifier's side. -/
import Derived.Test.YtjipmkgnndldpaaFBkT
import Derived.Test.YtjipmkgnndldpaaFBkE
import Derived.Test.YtjipmkgnndldpaaFRefARefP
namespace Go.Proofs.Ytjipmkgnndldpaa
open Go.RowKit
set_option linter.unusedSimpArgs false
set_option linter.unusedVariables false

theorem GivesCE.ok {E : Nat → Option Int} {zs : List Int} {p inc c : Int} (hc : ECan E) (h : EIs E zs p inc c) {w w' : World} {e : Ending} (k : GivesCE zs p inc c w e w') : GivesOk E w e w' := by
  rcases h with ⟨rfl, q, rfl, hf⟩ | ⟨_, _, _, _, hn⟩
  · obtain ⟨a, n, cap, he, hb, hr, hx⟩ := k
    exact ⟨a, n, cap, zs, q, inc, he, hb, hr, hf, hx⟩
  · exact absurd hc hn
theorem token_ok {bn bd rn rd : Nat} (h1 : okB bn bd = true) (h2 : okB rn rd = true) (b0 : bn ≤ 536870912) (r0 : rn ≤ 4194304) (r2 : rd ≤ 120) (w : World) :
    Calls Try.prog 33 #[bucketV bn bd rn rd] w (GivesOk (tokE bn bd rn rd) w) := by
  obtain ⟨zs, p, inc, c, hE⟩ := eis_ex (tokE bn bd rn rd)
  have k1 := (okB_iff _ _).1 h1
  have k2 := (okB_iff _ _).1 h2
  rw [okF_iff] at k1 k2
  have hT : TokIs bn bd rn rd zs p inc c := .inl ⟨by rw [h1, h2]; rfl, by rw [Int.toNat_natCast, Int.toNat_natCast, Int.toNat_natCast, Int.toNat_natCast]; exact .inl ⟨r2, hE⟩⟩
  exact (token_ce hT w).mono fun _ _ k => k.ok (tok_can (by omega) (by omega) r2 b0 r0) hE
theorem steps_ok {st ev ah : Nat} (h1 : st ≤ 1048576) (h2 : 1 ≤ ev) (h3 : ev ≤ 120) (h4 : ah ≤ 800) (w : World) :
    Calls Try.prog 84 #[stairV st ev ah] w (GivesOk (stairE st ev ah) w) := by
  obtain ⟨zs, p, inc, c, hE⟩ := eis_ex (stairE st ev ah)
  have hT : StepIs st ev ah zs p inc c := .inl ⟨(okS_iff _ _ _).2 ⟨by omega, by omega, by omega, by omega, by omega, by omega⟩, by rw [Int.toNat_natCast, Int.toNat_natCast, Int.toNat_natCast]; exact hE⟩
  exact (steps_ce hT w).mono fun _ _ k => k.ok (stair_can h2 h3 h1 h4) hE

theorem ex_great : GreatX (PairX 3) (spanX [3, 0, 4] 2 1) 4 := by
  refine ⟨by omega, fun i j h => ?_, .inr ⟨2, 2, ⟨by omega, by omega⟩, by decide⟩⟩
  obtain ⟨h1, h2⟩ := h
  have hj : j = 0 ∨ j = 1 ∨ j = 2 := by omega
  have hi : i = 0 ∨ i = 1 ∨ i = 2 := by omega
  rcases hj with rfl | rfl | rfl <;> rcases hi with rfl | rfl | rfl <;> first | decide | omega
theorem ex_sizes : SizesX [3, 0, 4] := fun i hi => by
  have hi' : i < 3 := hi
  have : i = 0 ∨ i = 1 ∨ i = 2 := by omega
  rcases this with rfl | rfl | rfl <;> decide
theorem ex_excess (w : World) (a : Option Addr) (n cap : Nat) (h : RowZ w a n cap [3, 0, 4]) :
    Calls Try.prog 181 #[bucketV 0 1 2 1, .slice a n cap] w fun e w' => e = .returned (.tuple #[.agg #[.int .i64 4, .int .i64 1], .int .i64 0]) ∧ Below w.heap.size w w' := by
  have hE : ExcIs 2 1 (okB 0 1 && okB 2 1) [3, 0, 4] (4, 1, 0) newF := .inl ⟨by decide, by decide, ex_sizes, 4, ex_great, (newF_mulk 4 1 (by omega) (by omega) (by omega)).symm⟩
  exact (excess_any 0 1 2 1 [3, 0, 4] _ hE a n cap w h)

set_option maxRecDepth 100000 in
set_option maxHeartbeats 6400000 in
theorem awake11 (w : World) : Calls Try.prog 81 #[] w (Says (.bool true) w) := by
  have ef1 : tokE 5 1 3 2 1 = some 5 := rfl
  have ef4 : tokE 5 1 3 2 4 = some 9 := rfl
  have ef5 : tokE 5 1 3 2 5 = some 11 := rfl
  have eg3 : stairE 14 2 0 3 = some 28 := rfl
  have HV := Lib.hid (And.intro (And.intro ef1 ef4) (And.intro ef5 eg3))
  clear ef1 ef4 ef5 eg3
  go_enter Try.func81, Try.ntmps81
  go_wp2_with fail
  refine (token_ok (bn := 5) (bd := 1) (rn := 3) (rd := 2) (by decide) (by decide) (by omega) (by omega) (by omega) _).mono ?_
  rintro e v1 ⟨af, nf, capf, zf, pf, jf, rfl, hb, hr, hf, hx⟩
  obtain ⟨w1, hw⟩ : ∃ W, v1.alloc (.cells #[.slice af nf capf, .int .i64 pf, .int .i64 jf] 38) = W := ⟨_, rfl⟩
  have hz : Below w.heap.size w w1 := by rw [← hw]; exact hb.trans ((below_box _).mono hb.size)
  have HB1 := Lib.hid hz
  have Xf := Lib.hid (show Bx w1 v1.heap.size af nf capf pf jf zf by rw [← hw]; exact Bx.new hr)
  have HF := Lib.hid hf
  have HW := Lib.hid hw
  clear hb hr hf hx hz hw
  go_upto_region 2 with fail
  try rw [HW.out]
  obtain ⟨F, hF⟩ : ∃ F, v1.heap.size = F := ⟨_, rfl⟩
  rw [hF] at Xf
  try rw [hF]
  clear HW hF
  go_wp2_with fail
  refine (steps_ok (st := 14) (ev := 2) (ah := 0) (by omega) (by omega) (by omega) (by omega) _).mono ?_
  rintro e v2 ⟨ag, ng, capg, zg, pg, jg, rfl, hb, hr, hf, hx⟩
  obtain ⟨w2, hw⟩ : ∃ W, v2.alloc (.cells #[.slice ag ng capg, .int .i64 pg, .int .i64 jg] 38) = W := ⟨_, rfl⟩
  have hz : Below w1.heap.size w1 w2 := by rw [← hw]; exact hb.trans ((below_box _).mono hb.size)
  have HB2 := Lib.hid (HB1.out.trans (hz.mono HB1.out.size))
  have Xf := Lib.hid (Xf.out.under hz)
  have Xg := Lib.hid (show Bx w2 v2.heap.size ag ng capg pg jg zg by rw [← hw]; exact Bx.new hr)
  have HG := Lib.hid hf
  have HW := Lib.hid hw
  clear hb hr hf hx hz hw HB1
  go_upto_region 3 with fail
  try rw [HW.out]
  obtain ⟨G, hG⟩ : ∃ F, v2.heap.size = F := ⟨_, rfl⟩
  rw [hG] at Xg
  try rw [hG]
  clear HW hG
  obtain ⟨w3, hw3⟩ : ∃ W, w2.alloc (.cells #[.int .i64 3, .int .i64 0, .int .i64 4] 3) = W := ⟨_, rfl⟩
  have hz : Below w2.heap.size w2 w3 := by rw [← hw3]; exact below_box _
  have HL := Lib.hid (show RowZ w3 (some ⟨w2.heap.size, 0, none⟩) 3 3 [3, 0, 4] by rw [← hw3]; exact rowZ_lit w2 [3, 0, 4] 3 (by decide) (by decide))
  have HB3 := Lib.hid (HB2.out.trans (hz.mono HB2.out.size))
  have Xf := Lib.hid (Xf.out.under hz)
  have Xg := Lib.hid (Xg.out.under hz)
  have HW := Lib.hid hw3
  clear hz hw3 HB2
  go_wp2_with fail
  rw [HW.out]
  refine (ex_excess _ _ _ _ HL.out).mono ?_
  rintro e v4 ⟨rfl, hb⟩
  obtain ⟨w4, hw⟩ : ∃ W, v4.alloc (.cells #[.int .i64 4, .int .i64 1] 23) = W := ⟨_, rfl⟩
  have hz : Below w3.heap.size w3 w4 := by rw [← hw]; exact hb.trans ((below_box _).mono hb.size)
  have HB4 := Lib.hid (HB3.out.trans (hz.mono HB3.out.size))
  have Xf := Lib.hid (Xf.out.under hz)
  have Xg := Lib.hid (Xg.out.under hz)
  have XX := Lib.hid (show Box w4 v4.heap.size 4 1 by rw [← hw]; exact Box.new _ _ _ _)
  have HW2 := Lib.hid hw
  clear hb hz hw HB3 HL
  go_upto_region 4 with fail
  try rw [HW2.out]
  obtain ⟨X, hX⟩ : ∃ F, v4.heap.size = F := ⟨_, rfl⟩
  rw [hX] at XX
  try rw [hX]
  clear HW HW2 hX
  have VF := Lib.hid (And.intro (And.intro (show In64 (pf : Int) from by have := HF.out.good.p2; exact ⟨by omega, by omega⟩) (show In64 jf from by have := HF.out.good.i0; have := HF.out.good.i1; exact ⟨by omega, by omega⟩)) ((okC_iff zf pf jf).2 HF.out.good))
  have VG := Lib.hid (And.intro (And.intro (show In64 (pg : Int) from by have := HG.out.good.p2; exact ⟨by omega, by omega⟩) (show In64 jg from by have := HG.out.good.i0; have := HG.out.good.i1; exact ⟨by omega, by omega⟩)) ((okC_iff zg pg jg).2 HG.out.good))
  obtain ⟨c0, c1, c2, c3, c4, c5⟩ := Xf.out.box
  go_wp2_with fail
  clear c0 c1 c2 c3 c4 c5
  with_reducible refine (rvalid_any af nf capf zf pf jf VF.out.1.1 VF.out.1.2 true VF.out.2 _ Xf.out.row).mono ?_
  rintro e w5 ⟨rfl, hb⟩
  have HB5 := Lib.hid (HB4.out.trans (hb.mono HB4.out.size))
  have Xf := Lib.hid (Xf.out.under hb)
  have Xg := Lib.hid (Xg.out.under hb)
  have XX := Lib.hid (XX.out.below hb)
  clear hb
  obtain ⟨c0, c1, c2, c3, c4, c5⟩ := Xf.out.box
  go_wp2_with fail
  clear c0 c1 c2 c3 c4 c5
  with_reducible refine (rat_at af nf capf zf pf jf HF.out.good 1 1 rfl (by omega) 5 (HF.out.at HV.out.1.1) _ Xf.out.row).mono ?_
  rintro e w6 ⟨rfl, hb⟩
  have HB6 := Lib.hid (HB5.out.trans (hb.mono HB5.out.size))
  have Xf := Lib.hid (Xf.out.under hb)
  have Xg := Lib.hid (Xg.out.under hb)
  have XX := Lib.hid (XX.out.below hb)
  clear hb
  obtain ⟨c0, c1, c2, c3, c4, c5⟩ := Xf.out.box
  go_wp2_with fail
  clear c0 c1 c2 c3 c4 c5
  with_reducible refine (rat_at af nf capf zf pf jf HF.out.good 4 4 rfl (by omega) 9 (HF.out.at HV.out.1.2) _ Xf.out.row).mono ?_
  rintro e w7 ⟨rfl, hb⟩
  have HB7 := Lib.hid (HB6.out.trans (hb.mono HB6.out.size))
  have Xf := Lib.hid (Xf.out.under hb)
  have Xg := Lib.hid (Xg.out.under hb)
  have XX := Lib.hid (XX.out.below hb)
  clear hb
  obtain ⟨c0, c1, c2, c3, c4, c5⟩ := Xf.out.box
  go_wp2_with fail
  clear c0 c1 c2 c3 c4 c5
  with_reducible refine (rat_at af nf capf zf pf jf HF.out.good 5 5 rfl (by omega) 11 (HF.out.at HV.out.2.1) _ Xf.out.row).mono ?_
  rintro e w8 ⟨rfl, hb⟩
  have HB8 := Lib.hid (HB7.out.trans (hb.mono HB7.out.size))
  have Xf := Lib.hid (Xf.out.under hb)
  have Xg := Lib.hid (Xg.out.under hb)
  have XX := Lib.hid (XX.out.below hb)
  clear hb
  obtain ⟨c0, c1, c2, c3, c4, c5⟩ := Xg.out.box
  go_wp2_with fail
  clear c0 c1 c2 c3 c4 c5
  with_reducible refine (rvalid_any ag ng capg zg pg jg VG.out.1.1 VG.out.1.2 true VG.out.2 _ Xg.out.row).mono ?_
  rintro e w9 ⟨rfl, hb⟩
  have HB9 := Lib.hid (HB8.out.trans (hb.mono HB8.out.size))
  have Xf := Lib.hid (Xf.out.under hb)
  have Xg := Lib.hid (Xg.out.under hb)
  have XX := Lib.hid (XX.out.below hb)
  clear hb
  obtain ⟨c0, c1, c2, c3, c4, c5⟩ := Xg.out.box
  go_wp2_with fail
  clear c0 c1 c2 c3 c4 c5
  with_reducible refine (rat_at ag ng capg zg pg jg HG.out.good 3 3 rfl (by omega) 28 (HG.out.at HV.out.2.2) _ Xg.out.row).mono ?_
  rintro e w10 ⟨rfl, hb⟩
  have HB10 := Lib.hid (HB9.out.trans (hb.mono HB9.out.size))
  have Xf := Lib.hid (Xf.out.under hb)
  have Xg := Lib.hid (Xg.out.under hb)
  have XX := Lib.hid (XX.out.below hb)
  clear hb
  obtain ⟨c0, c1, c2, c3⟩ := XX.out
  go_wp2_with fail
  go_ret
  exact ⟨rfl, HB10.out⟩

end Go.Proofs.Ytjipmkgnndldpaa
