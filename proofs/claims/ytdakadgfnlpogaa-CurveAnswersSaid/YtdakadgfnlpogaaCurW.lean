/- The examples of the chapter (awake). By the verifier's side. -/
import Derived.Test.YtdakadgfnlpogaaCurL
namespace Go.Proofs.Ytdakadgfnlpogaa
open Go.RowKit
set_option linter.unusedSimpArgs false

theorem norm_line {x : Int} (h0 : 0 ≤ x) (h1 : x ≤ 1073741824) {zs' : List Int} {p' : Nat} {inc' : Int} (h : NormC (firsts (lineF x) 1) 1 x zs' p' inc') : zs' = [0] ∧ p' = 1 ∧ inc' = x := by
  have g := line_good x h0 h1
  have e : firsts (lineF x) 1 = [0] := by simp [firsts, lineF]
  rw [e] at h g
  have hf : ¬ ([0] : List Int).getD (([0] : List Int).length - 1) 0 = infV := by simp [infV]
  have hn : NormOf (atC [0] 1 x) 0 1 x := ⟨g.per hf, Nat.le_refl _, fun q h1 h2 => by omega, .inl rfl⟩
  rcases h with ⟨_, s, hn2, rfl, _, _⟩ | ⟨i, hi, he, _⟩
  · obtain ⟨rfl, rfl, rfl⟩ := hn.unique hn2
    exact ⟨rfl, rfl, rfl⟩
  · exact absurd (g.inf_iff.1 ⟨i, hi, he⟩) hf

theorem ex_good : Good [0, 3, 6] 2 6 := (okC_iff [0, 3, 6] 2 6).1 (by decide)
theorem ex_at : ∀ t, atC [0, 3, 6] 2 6 t = (fun t : Nat => 3 * (t : Int)) t := by
  have hp := ex_good.per (show ¬ ([0, 3, 6] : List Int).getD (([0, 3, 6] : List Int).length - 1) 0 = infV by decide)
  refine hp.ext (fun t _ => by show 3 * ((t + 2 : Nat) : Int) = 3 * (t : Int) + 6; omega) (by omega) fun t ht => ?_
  have ht3 : t < 3 := ht
  have : t = 0 ∨ t = 1 ∨ t = 2 := by omega
  rcases this with rfl | rfl | rfl <;> decide
theorem norm_ex {zs' : List Int} {p' : Nat} {inc' : Int} (h : NormC [0, 3, 6] 2 6 zs' p' inc') : zs' = [0] ∧ p' = 1 ∧ inc' = 3 := by
  have hf : ¬ ([0, 3, 6] : List Int).getD (([0, 3, 6] : List Int).length - 1) 0 = infV := by decide
  have hn : NormOf (atC [0, 3, 6] 2 6) 0 1 3 := ⟨fun t _ => by rw [ex_at, ex_at]; show 3 * ((t + 1 : Nat) : Int) = 3 * (t : Int) + 3; omega, Nat.le_refl _, fun q h1 h2 => by omega, .inl rfl⟩
  rcases h with ⟨_, s, hn2, rfl, _, _⟩ | ⟨i, hi, he, _⟩
  · obtain ⟨rfl, rfl, rfl⟩ := hn.unique hn2
    exact ⟨rfl, rfl, rfl⟩
  · exact absurd (ex_good.inf_iff.1 ⟨i, hi, he⟩) hf

theorem norm_wait {k : Nat} (h1 : k ≤ 398) {zs' : List Int} {p' : Nat} {inc' : Int} (h : NormC (firsts (waitF k) (k + 2)) 1 0 zs' p' inc') : zs' = firsts (waitF k) (k + 2) ∧ p' = 1 ∧ inc' = 0 := by
  have hl := firsts_length (waitF k) (k + 2)
  rcases h with ⟨hf, _⟩ | ⟨i, hi, he, hj, rfl, rfl, rfl⟩
  · exact absurd (by rw [hl, wait_getD _ _ (by omega), if_neg (by omega)]) hf
  · rw [hl] at hi
    rw [wait_getD _ _ hi] at he
    have hik : i = k + 1 := by
      by_cases hc : i ≤ k
      · rw [if_pos hc] at he; simp [infV] at he
      · omega
    subst hik
    exact ⟨List.take_of_length_le (by omega), rfl, rfl⟩

theorem rowZ_lit (w : World) (xs : List Int) (t : TypeId) (hx : ∀ z ∈ xs, In64 z) (hl : xs.length ≤ 1000) : RowZ (w.alloc (.cells (xs.map (Value.int .i64)).toArray t)) (some ⟨w.heap.size, 0, none⟩) xs.length xs.length xs := by
  refine ⟨rfl, Nat.le_refl _, by omega, by omega, fun i hi => ⟨_, rfl, ?_⟩, fun i hi => ?_⟩
  · have ea : ((⟨w.heap.size, 0, none⟩ : Addr).add i) = ⟨w.heap.size, i, none⟩ := by unfold Addr.add; split <;> simp_all
    rw [ea, World.cell?_alloc_new]
    simp [hi, List.getD]
  · have e : xs.getD i 0 = xs[i] := by simp [List.getD, List.getElem?_eq_getElem hi]
    rw [e]; exact hx _ (List.getElem_mem hi)

theorem zero_good : Good [0] 1 3 := (okC_iff [0] 1 3).1 (by decide)
theorem lt5' {a b : Nat} (h : a < b) : a < b + 1 ∧ ¬ a = b ∧ ¬ b = a ∧ a < b := ⟨by omega, by omega, by omega, h⟩

set_option maxRecDepth 100000 in
set_option maxHeartbeats 3200000 in
theorem awake_all (w : World) : Calls Try.prog 9 #[] w (Says (.bool true) w) := by
  go_enter Try.func9, Try.ntmps9
  go_wp2_with fail
  refine (normal_ok (some ⟨w.heap.size, 0, none⟩) 3 3 [0, 3, 6] 2 6 ex_good _ (rowZ_lit w [0, 3, 6] 3 (by decide) (by decide))).mono ?_
  rintro e w1 ⟨a1, n1, k1, zs1, p1, i1, rfl, hb1, hr1, hn1, _⟩
  obtain ⟨rfl, rfl, rfl⟩ := norm_ex hn1
  obtain rfl : n1 = 1 := hr1.len.symm
  have HB1 := Lib.hid (((Below.refl _ _).alloc (Nat.le_refl _) _).trans (hb1.mono (by simp)) : Below w.heap.size w w1)
  have R1 := Lib.hid hr1
  clear hb1 hr1 hn1
  go_wp2_with fail
  have V1 := Lib.hid (Cur3.new w1 (.slice a1 1 k1) (.int .i64 1) (.int .i64 3) 24)
  refine (line_ok 3 (by omega) (by omega) _).mono ?_
  rintro e w2 ⟨a2, n2, k2, zs2, p2, i2, rfl, hb2, hr2, hn2, _⟩
  obtain ⟨rfl, rfl, rfl⟩ := norm_line (by omega) (by omega) hn2
  obtain rfl : n2 = 1 := hr2.len.symm
  have W1 := Lib.hid (V1.out.below hb2)
  have S1 := Lib.hid ((R1.out.alloc _).under hb2)
  have HB2 := Lib.hid ((HB1.out.alloc HB1.out.size _).trans (hb2.mono (HB1.out.alloc HB1.out.size _).size))
  have R2 := Lib.hid hr2
  clear hb2 hr2 hn2 V1 R1
  go_wp2_with fail
  have V2 := Lib.hid (Cur3.new w2 (.slice a2 1 k2) (.int .i64 1) (.int .i64 3) 24)
  refine (wait_ok 2 (by omega) _).mono ?_
  rintro e w3 ⟨a3, n3, k3, zs3, p3, i3, rfl, hb3, hr3, hn3, _⟩
  obtain ⟨rfl, rfl, rfl⟩ := norm_wait (by omega) hn3
  obtain rfl : n3 = 4 := hr3.len.symm
  have X1 := Lib.hid ((W1.out.alloc (.cells #[.slice a2 1 k2, .int .i64 1, .int .i64 3] 24)).below hb3)
  have X2 := Lib.hid (V2.out.below hb3)
  have T1 := Lib.hid ((S1.out.alloc (.cells #[.slice a2 1 k2, .int .i64 1, .int .i64 3] 24)).under hb3)
  have T2 := Lib.hid ((R2.out.alloc (.cells #[.slice a2 1 k2, .int .i64 1, .int .i64 3] 24)).under hb3)
  have HB3 := Lib.hid ((HB2.out.alloc HB2.out.size (.cells #[.slice a2 1 k2, .int .i64 1, .int .i64 3] 24)).trans (hb3.mono (HB2.out.alloc HB2.out.size _).size))
  have R3 := Lib.hid hr3
  clear hb3 hr3 hn3 V2 W1 S1 R2
  obtain ⟨c0, c1, c2, f0, f1, f2⟩ := X2.out
  obtain ⟨l1, l2, l3, l4⟩ := lt5' X2.out.lt
  go_wp2_with fail
  clear c0 c1 c2 f0 f1 f2 l1 l2 l3 l4
  have X3 := Lib.hid (Cur3.new w3 (.slice a3 4 k3) (.int .i64 1) (.int .i64 0) 24)
  refine (value_ok a2 1 k2 [0] 1 3 zero_good 10 (by omega) _ (T2.out.alloc _)).mono ?_
  rintro e w4 ⟨he, hb4⟩
  rw [show atC [0] 1 3 10 = 30 by decide] at he
  subst he
  have Y1 := Lib.hid ((X1.out.alloc (.cells #[.slice a3 4 k3, .int .i64 1, .int .i64 0] 24)).below hb4)
  have Y2 := Lib.hid ((X2.out.alloc (.cells #[.slice a3 4 k3, .int .i64 1, .int .i64 0] 24)).below hb4)
  have Y3 := Lib.hid (X3.out.below hb4)
  have U1 := Lib.hid ((T1.out.alloc (.cells #[.slice a3 4 k3, .int .i64 1, .int .i64 0] 24)).under hb4)
  have U2 := Lib.hid ((T2.out.alloc (.cells #[.slice a3 4 k3, .int .i64 1, .int .i64 0] 24)).under hb4)
  have U3 := Lib.hid ((R3.out.alloc (.cells #[.slice a3 4 k3, .int .i64 1, .int .i64 0] 24)).under hb4)
  have HB4 := Lib.hid ((HB3.out.alloc HB3.out.size (.cells #[.slice a3 4 k3, .int .i64 1, .int .i64 0] 24)).trans (hb4.mono (HB3.out.alloc HB3.out.size _).size))
  clear hb4 X1 X2 X3 T1 T2 R3
  obtain ⟨c0, c1, c2, f0, f1, f2⟩ := Y1.out
  obtain ⟨l1, l2, l3, l4⟩ := lt5' Y1.out.lt
  go_wp2_with fail
  clear c0 c1 c2 f0 f1 f2 l1 l2 l3 l4
  refine (rsame_any a1 1 k1 [0] 1 3 (some ⟨w4.heap.size, 0, none⟩) 1 1 [0] 1 3 true (by decide) _ (U1.out.alloc _) (rowZ_lit w4 [0] 3 (by decide) (by decide))).mono ?_
  rintro e w5 ⟨rfl, hb5⟩
  have hb45 := Lib.hid (((Below.refl _ _).alloc (Nat.le_refl _) (.cells #[.int .i64 0] 3)).trans (hb5.mono (by simp)) : Below w4.heap.size w4 w5)
  have Z1 := Lib.hid (Y1.out.below hb45.out)
  have Z2 := Lib.hid (Y2.out.below hb45.out)
  have Z3 := Lib.hid (Y3.out.below hb45.out)
  have Q1 := Lib.hid (U1.out.under hb45.out)
  have Q2 := Lib.hid (U2.out.under hb45.out)
  have Q3 := Lib.hid (U3.out.under hb45.out)
  have HB5 := Lib.hid (HB4.out.trans (hb45.out.mono HB4.out.size))
  clear hb5 hb45 Y1 Y2 Y3 U1 U2 U3
  obtain ⟨c0, c1, c2, f0, f1, f2⟩ := Z1.out
  obtain ⟨d0, d1, d2, g0, g1, g2⟩ := Z2.out
  go_wp2_with fail
  clear c0 c1 c2 f0 f1 f2 d0 d1 d2 g0 g1 g2
  refine (rsame_any a1 1 k1 [0] 1 3 a2 1 k2 [0] 1 3 true (by decide) _ Q1.out Q2.out).mono ?_
  rintro e w6 ⟨rfl, hb6⟩
  have P3 := Lib.hid (Z3.out.below hb6)
  have Q4 := Lib.hid (Q3.out.under hb6)
  have HB6 := Lib.hid (HB5.out.trans (hb6.mono HB5.out.size))
  clear hb6 Z1 Z2 Z3 Q1 Q2 Q3
  obtain ⟨c0, c1, c2, f0, f1, f2⟩ := P3.out
  obtain ⟨l1, l2, l3, l4⟩ := lt5' P3.out.lt
  go_wp2_with fail
  clear c0 c1 c2 f0 f1 f2 l1 l2 l3 l4
  refine (rsame_any a3 4 k3 (firsts (waitF ((2 : Nat) : Int)) (2 + 2)) 1 0 (some ⟨w6.heap.size, 0, none⟩) 4 4 [0, 0, 0, 4611686018427387904] 1 0 true (by decide) _ (Q4.out.alloc _) (rowZ_lit w6 [0, 0, 0, 4611686018427387904] 3 (by decide) (by decide))).mono ?_
  rintro e w7 ⟨rfl, hb7⟩
  have HB7 := Lib.hid ((HB6.out.alloc HB6.out.size _).trans (hb7.mono (HB6.out.alloc HB6.out.size _).size))
  clear hb7
  go_wp2_with fail
  go_ret
  exact ⟨rfl, HB7.out⟩

end Go.Proofs.Ytdakadgfnlpogaa
