/- Small paces, and the examples of the chapter. By the verifier's side. -/
import Derived.Test.YtjipmkgnndldpaaESvLSvCSvD
import Derived.Test.YtjipmkgnndldpaaERefARefP
import Derived.Test.YtjipmkgnndldpaaEBkQ
import Derived.Test.YtjipmkgnndldpaaEBkSBkH
import Derived.Test.YtjipmkgnndldpaaEBkLBkNBkO
namespace Go.Proofs.Ytjipmkgnndldpaa
open Go.RowKit
set_option linter.unusedSimpArgs false
set_option linter.unusedVariables false

theorem pace_ok {rn rd ln ld : Nat} (h1 : okB rn rd = true) (h2 : okB ln ld = true) (r0 : rn ≤ 1048576) (r2 : rd ≤ 120) (hf : upN ln ld + rd ≤ 400) (w : World) :
    Calls Try.prog 21 #[bucketV rn rd ln ld] w (GivesOk (paceE rn rd ln ld) w) := by
  obtain ⟨zs, p, inc, c, hE⟩ := eis_ex (paceE rn rd ln ld)
  have k1 := (okB_iff _ _).1 h1
  have k2 := (okB_iff _ _).1 h2
  rw [okF_iff] at k1 k2
  have hT : PaceIs rn rd ln ld zs p inc c := .inl ⟨by rw [h1, h2]; rfl, by rw [Int.toNat_natCast, Int.toNat_natCast, Int.toNat_natCast, Int.toNat_natCast]; exact .inl ⟨.inr r2, hE⟩⟩
  exact (pace_ce hT w).mono fun _ _ k => k.ok (pace_can (by omega) r2 (by omega) r0 ((first_le (by omega)).1 (Nat.le_refl _)) hf) hE
/-- Its period is a divisor's, at most the rate's denominator. -/
theorem pace_form {zs : List Int} {p : Nat} {inc : Int} {rn rd ln ld : Nat} (h : EForm zs p inc (paceE rn rd ln ld)) (h1 : 1 ≤ rd) (h2 : 1 ≤ ld) : p ≤ rd :=
  form_per h (fun _ => rfl) (pace_per (f := upN ln ld) h1 h2 ((first_le h2).1 (Nat.le_refl _))) h1

theorem ex_wait : waitA 10 1 2 1 4 1 3 1 = (9, 2, 0) := by decide

set_option maxRecDepth 100000 in
set_option maxHeartbeats 6400000 in
theorem awake12 (w : World) : Calls Try.prog 15 #[] w (Says (.bool true) w) := by
  have ef1 : paceE 3 2 2 1 2 = some 0 := rfl
  have ef4 : paceE 3 2 2 1 3 = some 2 := rfl
  have ef5 : paceE 3 2 2 1 6 = some 6 := rfl
  have HV := Lib.hid (And.intro (And.intro ef1 ef4) ef5)
  clear ef1 ef4 ef5
  go_enter Try.func15, Try.ntmps15
  go_wp2_with fail
  refine (pace_ok (rn := 3) (rd := 2) (ln := 2) (ld := 1) (by decide) (by decide) (by omega) (by omega) (by decide) _).mono ?_
  rintro e v1 ⟨af, nf, capf, zf, pf, jf, rfl, hb, hr, hf, hx⟩
  obtain ⟨w1, hw⟩ : ∃ W, v1.alloc (.cells #[.slice af nf capf, .int .i64 pf, .int .i64 jf] 38) = W := ⟨_, rfl⟩
  have hz : Below w.heap.size w w1 := by rw [← hw]; exact hb.trans ((below_box _).mono hb.size)
  have HB1 := Lib.hid hz
  have Xf := Lib.hid (show Bx w1 v1.heap.size af nf capf pf jf zf by rw [← hw]; exact Bx.new hr)
  have HF := Lib.hid hf
  have HW := Lib.hid hw
  clear hb hr hf hx hz hw
  go_upto_region 2 with fail
  try rw [HW.out]
  obtain ⟨F, hF⟩ : ∃ F, v1.heap.size = F := ⟨_, rfl⟩
  rw [hF] at Xf
  try rw [hF]
  clear HW hF
  go_wp2_with fail
  refine (wait_any 10 1 2 1 4 1 3 1 _).mono ?_
  rw [ex_wait]
  rintro e v4 ⟨rfl, hb⟩
  obtain ⟨w4, hw⟩ : ∃ W, v4.alloc (.cells #[.int .i64 9, .int .i64 2] 23) = W := ⟨_, rfl⟩
  have hz : Below w1.heap.size w1 w4 := by rw [← hw]; exact hb.trans ((below_box _).mono hb.size)
  have HB4 := Lib.hid (HB1.out.trans (hz.mono HB1.out.size))
  have Xf := Lib.hid (Xf.out.under hz)
  have XX := Lib.hid (show Box w4 v4.heap.size 9 2 by rw [← hw]; exact Box.new _ _ _ _)
  have HW2 := Lib.hid hw
  clear hb hz hw HB1
  go_upto_region 3 with fail
  try rw [HW2.out]
  obtain ⟨X, hX⟩ : ∃ F, v4.heap.size = F := ⟨_, rfl⟩
  rw [hX] at XX
  try rw [hX]
  clear HW2 hX
  have VF := Lib.hid (And.intro (And.intro (show In64 (pf : Int) from by have := HF.out.good.p2; exact ⟨by omega, by omega⟩) (show In64 jf from by have := HF.out.good.i0; have := HF.out.good.i1; exact ⟨by omega, by omega⟩)) ((okC_iff zf pf jf).2 HF.out.good))
  obtain ⟨c0, c1, c2, c3, c4, c5⟩ := Xf.out.box
  go_wp2_with fail
  clear c0 c1 c2 c3 c4 c5
  with_reducible refine (rvalid_any af nf capf zf pf jf VF.out.1.1 VF.out.1.2 true VF.out.2 _ Xf.out.row).mono ?_
  rintro e w5 ⟨rfl, hb⟩
  have HB5 := Lib.hid (HB4.out.trans (hb.mono HB4.out.size))
  have Xf := Lib.hid (Xf.out.under hb)
  have XX := Lib.hid (XX.out.below hb)
  clear hb
  obtain ⟨c0, c1, c2, c3, c4, c5⟩ := Xf.out.box
  go_wp2_with fail
  clear c0 c1 c2 c3 c4 c5
  with_reducible refine (rat_at af nf capf zf pf jf HF.out.good 2 2 rfl (by omega) 0 (HF.out.at HV.out.1.1) _ Xf.out.row).mono ?_
  rintro e w6 ⟨rfl, hb⟩
  have HB6 := Lib.hid (HB5.out.trans (hb.mono HB5.out.size))
  have Xf := Lib.hid (Xf.out.under hb)
  have XX := Lib.hid (XX.out.below hb)
  clear hb
  obtain ⟨c0, c1, c2, c3, c4, c5⟩ := Xf.out.box
  go_wp2_with fail
  clear c0 c1 c2 c3 c4 c5
  with_reducible refine (rat_at af nf capf zf pf jf HF.out.good 3 3 rfl (by omega) 2 (HF.out.at HV.out.1.2) _ Xf.out.row).mono ?_
  rintro e w7 ⟨rfl, hb⟩
  have HB7 := Lib.hid (HB6.out.trans (hb.mono HB6.out.size))
  have Xf := Lib.hid (Xf.out.under hb)
  have XX := Lib.hid (XX.out.below hb)
  clear hb
  obtain ⟨c0, c1, c2, c3, c4, c5⟩ := Xf.out.box
  go_wp2_with fail
  clear c0 c1 c2 c3 c4 c5
  with_reducible refine (rat_at af nf capf zf pf jf HF.out.good 6 6 rfl (by omega) 6 (HF.out.at HV.out.2) _ Xf.out.row).mono ?_
  rintro e w8 ⟨rfl, hb⟩
  have HB8 := Lib.hid (HB7.out.trans (hb.mono HB7.out.size))
  have Xf := Lib.hid (Xf.out.under hb)
  have XX := Lib.hid (XX.out.below hb)
  clear hb
  obtain ⟨c0, c1, c2, c3⟩ := XX.out
  go_wp2_with fail
  go_ret
  exact ⟨rfl, HB8.out⟩

end Go.Proofs.Ytjipmkgnndldpaa

namespace Go.Proofs.Ytjipmkgnndldpaa
open Go.RowKit
set_option linter.unusedSimpArgs false
set_option linter.unusedVariables false

theorem svnew_nat {N D : Nat} (h1 : 1 ≤ D) (h2 : D ≤ 1000) (h3 : N ≤ 1000000) : ∃ S T : Nat, newF N D = ((S : Int), (T : Int), 0) ∧ okB S T = true ∧ S * D = N * T ∧ 1 ≤ T ∧ T ≤ D ∧ S ≤ N := by
  obtain ⟨sn, sd, he, hok, hx, hneg, _, hle, hde⟩ := newF_small N D (by omega) (by omega) (by omega)
  have h0 : 0 ≤ sn := by
    rcases Int.lt_or_le sn 0 with h | h
    · have := hneg.1 h; omega
    · exact h
  have o3 := (okF_iff _ _).1 hok
  obtain ⟨S, rfl⟩ := Int.eq_ofNat_of_zero_le h0
  obtain ⟨T, rfl⟩ := Int.eq_ofNat_of_zero_le (show 0 ≤ sd by omega)
  refine ⟨S, T, he, (okB_iff _ _).2 ⟨hok, h0⟩, ?_, by omega, by omega, by omega⟩
  have : ((S * D : Nat) : Int) = ((N * T : Nat) : Int) := by rw [Int.natCast_mul, Int.natCast_mul]; exact hx
  exact Int.ofNat.inj this
/-- The sum of two small fractions. -/
theorem svadd_nat {a b c d : Nat} (h1 : okB a b = true) (h2 : okB c d = true) (hb : b ≤ 20) (hd : d ≤ 20) (ha : a ≤ 1000) (hc : c ≤ 1000) :
    ∃ S T : Nat, addF a b c d = ((S : Int), (T : Int), 0) ∧ okB S T = true ∧ S * (b * d) = (a * d + c * b) * T ∧ 1 ≤ T ∧ T ≤ b * d ∧ S ≤ a * d + c * b := by
  have k1 := ((okB_iff _ _).1 h1).1
  have k2 := ((okB_iff _ _).1 h2).1
  have o1 := (okF_iff _ _).1 k1
  have o2 := (okF_iff _ _).1 k2
  have e1 : a * d ≤ 1000 * 20 := Nat.mul_le_mul ha hd
  have e2 : c * b ≤ 1000 * 20 := Nat.mul_le_mul hc hb
  have e3 : b * d ≤ 20 * 20 := Nat.mul_le_mul hb hd
  have e4 : 1 ≤ b * d := Nat.mul_pos (by omega) (by omega)
  obtain ⟨S, T, he, hr⟩ := svnew_nat (N := a * d + c * b) (D := b * d) e4 (by omega) (by omega)
  refine ⟨S, T, ?_, hr⟩
  unfold addF
  rw [if_pos (by rw [k1, k2]; rfl), ← he]
  congr 1 <;> simp
theorem up_small {n d : Nat} (hd : 1 ≤ d) : upN n d ≤ n := (up_le hd n).2 (Nat.le_mul_of_pos_right _ hd)
theorem okB_one {d : Nat} (h : d ≤ 1073741824) : okB d 1 = true := (okB_iff _ _).2 ⟨(okF_iff _ _).2 ⟨by omega, by omega, by omega, by omega, by simp⟩, by omega⟩

end Go.Proofs.Ytjipmkgnndldpaa
