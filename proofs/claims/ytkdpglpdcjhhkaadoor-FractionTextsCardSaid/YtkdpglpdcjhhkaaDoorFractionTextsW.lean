/- The walk of FractionTexts. By the verifier's side. -/
import Derived.Test.YtkdpglpdcjhhkaaDoorAwake
import Derived.Test.YtkdpglpdcjhhkaaDoorBox
import Derived.Test.YtkdpglpdcjhhkaaDoorTextMath
import Derived.Deep.DeepCutAuto
namespace Go.Proofs.YtkdpglpdcjhhkaaDoor
open Go.RowKit
set_option linter.unusedSimpArgs false

set_option maxRecDepth 100000 in
set_option maxHeartbeats 3200000 in
theorem fractionTexts_walk (W : World) (h0 : Lib0 W) (s : ByteArray) (hlim : s.size ≤ 140737488355328) (a : Option Addr) (n cap : Nat) (hrow : RowAt W a n cap) :
    Calls Tryd.prog 6 #[.string s, .slice a n cap] W fun e w' => e = .returned (.bool true) ∧ Below W.heap.size W w' := by
  have H0 := Lib.hid h0
  have HR := Lib.hid hrow
  clear h0 hrow
  by_cases hlen : 100 < s.size
  · go_enter Tryd.func6, Tryd.ntmps6
    go_wp2_with fail
    refine (awake_all _ H0.out).mono ?_
    rintro e w1 ⟨rfl, hb⟩
    go_wp2_with fail
    go_ret
    exact ⟨rfl, hb⟩
  · have hl2 : s.size < 4294967281 := by omega
    go_enter Tryd.func6, Tryd.ntmps6
    go_wp2_with fail
    refine (new_any a n cap _ HR.out).mono ?_
    rintro e w1 ⟨rfl, hb1, hz1, a1, n1, cap1, hs1⟩
    have HB1 := Lib.hid hb1
    have HS1 := Lib.hid hs1
    clear hb1 hz1 hs1
    go_wp2_with fail
    refine (frac_any 89478485 12 (by omega) (by omega) (by omega) (by omega) _ a1 n1 cap1 _ HS1.out).mono ?_
    rintro e w2 ⟨X, d, hx, rfl, hs2, he2⟩
    have HS2 := Lib.hid hs2
    have HB2 := Lib.hid (HB1.out.trans (he2.below (Nat.le_refl _) HB1.out.size))
    have g1 := hx.2.2.2.2
    have HG1 := Lib.hid g1
    have hX0 := hx.1
    have hX1 := hx.2.1
    have hd0 := hx.2.2.1
    have hd1 := hx.2.2.2.1
    clear hs2 he2 hx g1
    go_wp2_with fail
    refine (n_any 2 (by omega) (by omega) _ a1 n1 cap1 _ (HS2.out.under ((Below.refl _ _).alloc (Nat.le_refl _) _))).mono ?_
    rintro e w3 ⟨r, hr, rfl, hs3, he3⟩
    have hsz : W.heap.size < w2.heap.size := HS2.out.lt
    have HE3 := Lib.hid he3
    have BX := Lib.hid ((Box.new w2 X d 23).else HE3.out (Nat.ne_of_gt hsz))
    have HB3 : Hid (Below W.heap.size W w3) := Lib.hid ((HB2.out.alloc HB2.out.size _).trans (HE3.out.below (Nat.le_refl _)))
    clear hs3 he3
    go_upto_if 21 with fail
    go_cut [6] (fun s6 wx => ∃ (p : Nat) (x : Int), (x = X ∨ x = -X) ∧ s6 = .pointer (some ⟨p, 0, none⟩) ∧ Hid (Box wx p x d) ∧ Hid (Below W.heap.size W wx) ∧ W.heap.size ≤ p)
    case first =>
      obtain ⟨c0, c1, f0, f1⟩ := BX.out
      by_cases h0 : r = 0
      · have hb0 : (r == 0) = true := by simpa using h0
        subst h0
        go_wp2_with fail
        go_meet
        exact ⟨w2.heap.size, -X, Or.inr rfl, rfl, BX.out.set0 _, HB3.out.setCell (Nat.le_of_lt hsz) _, Nat.le_of_lt hsz⟩
      · have hb0 : (r == 0) = false := by simpa using h0
        go_wp2_with fail
        go_meet
        exact ⟨w2.heap.size, X, Or.inl rfl, rfl, BX, HB3, Nat.le_of_lt hsz⟩
    case rest =>
      obtain ⟨w4, rfl⟩ : ∃ u : World, u = wc := ⟨_, rfl⟩
      obtain ⟨p, x, hx, rfl, PX, HB4, hWp⟩ := hcut
      have gx : Nat.gcd x.natAbs d.natAbs = 1 := by
        rcases hx with h | h
        · rw [h]; exact HG1.out
        · rw [h, Int.natAbs_neg]; exact HG1.out
      have KX := Lib.hid (okF_of x d hd0 (by omega) (by omega) gx)
      clear gx hx BX
      obtain ⟨c0, c1, f0, f1⟩ := PX.out
      obtain ⟨l1, l2, l3, l4⟩ := lt5 PX.out.lt
      go_wp2_with fail
      refine (format_all x d _ (H0.out.below HB4.out)).mono ?_
      rintro e w5 ⟨rfl, hb5⟩
      have PX5 := Lib.hid (PX.out.below hb5)
      have HB5 := Lib.hid (HB4.out.trans (hb5.mono HB4.out.size))
      have KP := Lib.hid (parse_format x d KX.out)
      have hfs : (⟨(formatL x d).toArray⟩ : ByteArray).size < 4294967281 := by
        have hb := (okF_iff x d).1 KX.out
        have q1 := Lib.itoa_length_le x (by omega) (by omega)
        have q2 := Lib.itoa_length_le d (by omega) (by omega)
        show (List.toArray _).size < _
        rw [List.size_toArray]
        unfold formatL
        rw [if_pos KX.out]
        split
        · exact Nat.lt_of_le_of_lt q1 (by decide)
        · rw [List.length_append, List.length_cons]; omega
      have KD : Hid ((⟨(formatL x d).toArray⟩ : ByteArray).data.toList = formatL x d) := Lib.hid rfl
      generalize (⟨(formatL x d).toArray⟩ : ByteArray) = tx at hfs KD ⊢
      clear c0 c1 f0 f1 l1 l2 l3 l4 hb5
      go_wp2_with fail
      refine (parse_all tx hfs _ (H0.out.below HB5.out)).mono ?_
      rintro e w6 ⟨he, hb6⟩
      rw [KD.out, KP.out] at he
      subst he
      have PX6 := Lib.hid (PX5.out.below hb6)
      have HB6 := Lib.hid (HB5.out.trans (hb6.mono HB5.out.size))
      obtain ⟨c0, c1, f0, f1⟩ := PX6.out
      obtain ⟨l1, l2, l3, l4⟩ := lt5 PX6.out.lt
      clear hb6
      go_wp2_with fail
      refine (parse_all s hl2 _ (H0.out.below (HB6.out.alloc HB6.out.size _))).mono ?_
      rintro e w7 ⟨he, hb7⟩
      have HB7 := Lib.hid ((HB6.out.alloc HB6.out.size _).trans (hb7.mono (by have := HB6.out.size; simp; omega)))
      clear c0 c1 f0 f1 l1 l2 l3 l4 hb7
      rcases hp : parseL s.data.toList with ⟨rn, rd, re⟩
      rw [hp] at he
      have F := format_parse _ rn rd re hp
      clear hp
      rcases F with ⟨rfl, rfl, rfl⟩ | ⟨rfl, hok, hfm⟩
      · subst he
        go_wp2_with fail
        refine (awake_all _ (H0.out.below (HB7.out.alloc HB7.out.size _))).mono ?_
        rintro e w8 ⟨rfl, hb8⟩
        go_wp2_with fail
        go_ret
        exact ⟨rfl, (HB7.out.alloc HB7.out.size _).trans (hb8.mono (by have := HB7.out.size; simp; omega))⟩
      · subst he
        have KO := Lib.hid hok
        have KF := Lib.hid (of_data hfm.symm)
        clear hok hfm
        go_wp2_with fail
        refine (format_all rn rd _ (H0.out.below (HB7.out.alloc HB7.out.size _))).mono ?_
        rintro e w8 ⟨he, hb8⟩
        rw [← KF.out] at he
        subst he
        have PC8 := Lib.hid ((Box.new w7 rn rd 23).below hb8)
        have HB8 := Lib.hid ((HB7.out.alloc HB7.out.size _).trans (hb8.mono (by have := HB7.out.size; simp; omega)))
        obtain ⟨c0, c1, f0, f1⟩ := PC8.out
        obtain ⟨l1, l2, l3, l4⟩ := lt5 PC8.out.lt
        clear hb8
        go_wp2_with fail
        refine (valid_all rn rd _ KO.out _).mono ?_
        rintro e w9 ⟨rfl, hb9⟩
        have HB9 := Lib.hid (HB8.out.trans (hb9.mono HB8.out.size))
        clear hb9
        go_wp2_with fail
        refine (awake_all _ (H0.out.below HB9.out)).mono ?_
        rintro e w10 ⟨rfl, hb10⟩
        go_wp2_with fail
        go_ret
        exact ⟨rfl, HB9.out.trans (hb10.mono HB9.out.size)⟩

end Go.Proofs.YtkdpglpdcjhhkaaDoor
