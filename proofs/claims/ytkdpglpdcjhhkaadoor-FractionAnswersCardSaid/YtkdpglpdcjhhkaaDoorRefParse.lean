/- The contract of the document's own Parse. By the verifier's side. -/
import Derived.Test.YtkdpglpdcjhhkaaDoorRefText
import Derived.Deep.DeepCutAuto
namespace Go.Proofs.YtkdpglpdcjhhkaaDoor
open Go.RowKit
set_option linter.unusedSimpArgs false

theorem byte_eq {c : UInt8} (h : c.toNat = 47) : c = 47 := UInt8.toNat_inj.1 h

theorem take_drop_at (l : List UInt8) (j : Nat) (h : j < l.length) (hc : l[j] = 47) : l = l.take j ++ 47 :: l.drop (j + 1) := by
  conv => lhs; rw [← List.take_append_drop j l, List.drop_eq_getElem_cons h, hc]

/-- Where the loop stands: the place of the first slash below k, if there is one. -/
def Seen (l : List UInt8) (k : Nat) (at' : Int) : Prop :=
  (at' = -1 ∧ ∀ i (h : i < l.length), i < k → l[i] ≠ 47) ∨ ∃ j : Nat, at' = j ∧ j < k ∧ ∃ h : j < l.length, l[j] = 47 ∧ ∀ i (h : i < l.length), i < j → l[i] ≠ 47

theorem Seen.parts {l : List UInt8} {at' : Int} (h : Seen l l.length at') : (at' = -1 ∧ partsL l = (l, [49])) ∨ ∃ j : Nat, at' = j ∧ j < l.length ∧ partsL l = (l.take j, l.drop (j + 1)) := by
  rcases h with ⟨h1, h2⟩ | ⟨j, h1, h2, h3, h4, h5⟩
  · refine Or.inl ⟨h1, ?_⟩
    have hc := cut_none l (fun c hc => by
      obtain ⟨i, hi, rfl⟩ := List.getElem_of_mem hc
      exact h2 i hi hi)
    unfold partsL
    rw [hc]
    rfl
  · refine Or.inr ⟨j, h1, h3, ?_⟩
    have e := take_drop_at l j h3 h4
    have hc := cut_slash (l.take j) (l.drop (j + 1)) (fun c hc => by
      obtain ⟨i, hi, rfl⟩ := List.getElem_of_mem hc
      rw [List.length_take] at hi
      rw [List.getElem_take]
      exact h5 i (by omega) (by omega))
    rw [← e] at hc
    unfold partsL
    rw [hc]
    rfl

theorem digitsF_bd : ∀ (l : List UInt8) (acc : Nat), acc ≤ 20000000000 → digitsF acc l ≤ 20000000000
  | [], _, h => h
  | c :: r, acc, h => by
    have hc : c.toNat < 256 := c.toNat_lt
    unfold digitsF
    split
    · omega
    · exact digitsF_bd r _ (by omega)

theorem ext_take (s : ByteArray) (j : Nat) : (s.extract 0 j).data.toList = s.data.toList.take j := by
  simp [ByteArray.data_extract]
theorem ext_drop (s : ByteArray) (j : Nat) : (s.extract j s.size).data.toList = s.data.toList.drop j := by
  simp [ByteArray.data_extract]
  exact List.take_of_length_le (by rw [List.length_drop]; exact Nat.le_of_eq (by rw [Array.length_toList]; rfl))

set_option maxRecDepth 100000 in
set_option maxHeartbeats 1600000 in
theorem rparse_all (s : ByteArray) (hs : s.size ≤ 140737488355328) (w : World) : Calls Tryd.prog 36 #[.string s] w (Gave (parseL s.data.toList) w) := by
  rw [← rparse_eq]
  obtain ⟨R, hR⟩ : ∃ R, rparseL s.data.toList = R := ⟨_, rfl⟩
  rw [hR]
  have HR := Lib.hid hR
  clear hR
  have hlen := Lib.hid (show s.data.toList.length = s.size from Array.length_toList)
  go_enter Tryd.func36, Tryd.ntmps36
  go_wp2_with fail
  go_loop [6, 7] (fun va vi => ∃ (p : Int) (k : Nat), va = .int .i64 p ∧ vi = .int .i64 k ∧ k ≤ s.size ∧ -1 ≤ p ∧ p ≤ 140737488355328 ∧ Hid (Seen s.data.toList k p)) (fun _ vi => s.size - (intOf vi).toNat)
  case atStart => exact ⟨-1, 0, rfl, rfl, Nat.zero_le _, by omega, by omega, Or.inl ⟨rfl, fun i _ h => absurd h (Nat.not_lt_zero _)⟩⟩
  case round =>
    obtain ⟨p, k, rfl, rfl, hk, hp1, hp2, HS⟩ := hrel
    by_cases hlt : k < s.size
    · obtain ⟨c, hc⟩ : ∃ c : Nat, s[k].toNat = c := ⟨_, rfl⟩
      have HC := Lib.hid hc
      have hc2 : c < 256 := by rw [← hc]; exact s[k].toNat_lt
      by_cases h1 : c = 47
      · have t1 : ((c : Int) == 47) = true := beq_iff_eq.2 (by omega)
        by_cases h2 : p < 0
        · go_wp2_with fail
          go_round
          case rel =>
            refine ⟨k, k + 1, rfl, congrArg (Value.int IntKind.i64) (by omega), by omega, by omega, by omega, Or.inr ⟨k, rfl, by omega, by rw [hlen.out]; exact hlt, byte_eq (HC.out.trans h1), ?_⟩⟩
            rcases HS.out with ⟨_, h4⟩ | ⟨j, h4, _⟩
            · exact h4
            · omega
          case measure => simp [intOf]; omega
        · go_wp2_with fail
          go_round
          case rel =>
            refine ⟨p, k + 1, rfl, congrArg (Value.int IntKind.i64) (by omega), by omega, by omega, by omega, ?_⟩
            rcases HS.out with ⟨h4, _⟩ | ⟨j, h4, h5, h6⟩
            · omega
            · exact Or.inr ⟨j, h4, by omega, h6⟩
          case measure => simp [intOf]; omega
      · have t1 : ((c : Int) == 47) = false := beq_eq_false_iff_ne.2 (by omega)
        go_wp2_with fail
        go_round
        case rel =>
          refine ⟨p, k + 1, rfl, congrArg (Value.int IntKind.i64) (by omega), by omega, by omega, by omega, ?_⟩
          rcases HS.out with ⟨h4, h5⟩ | ⟨j, h4, h5, h6⟩
          · refine Or.inl ⟨h4, fun i hi hik e => ?_⟩
            by_cases hik2 : i = k
            · subst hik2
              have : s[i].toNat = 47 := by
                have e2 : s[i] = s.data.toList[i] := rfl
                rw [e2, e]
                rfl
              exact h1 (HC.out.symm.trans this)
            · exact h5 i hi (by omega) e
          · exact Or.inr ⟨j, h4, by omega, h6⟩
        case measure => simp [intOf]; omega
    · obtain rfl : k = s.size := by omega
      have HP : Hid ((p = -1 ∧ partsL s.data.toList = (s.data.toList, [49])) ∨ ∃ j : Nat, p = j ∧ j < s.data.toList.length ∧ partsL s.data.toList = (s.data.toList.take j, s.data.toList.drop (j + 1))) :=
        Lib.hid (Seen.parts (by rw [hlen.out]; exact HS.out))
      go_upto_if 26 with fail
      go_cut [4, 5] (fun s4 s5 wx => ∃ x y : ByteArray, s4 = .string x ∧ s5 = .string y ∧ Hid (partsL s.data.toList = (x.data.toList, y.data.toList)) ∧ x.size ≤ s.size ∧ y.size ≤ 140737488355328 ∧ ∃ m, wx = (w.alloc (.cells #[.int .i64 0, .int .i64 0] 23)).drewN m)
      case first =>
        by_cases h0 : 0 ≤ p
        · obtain ⟨j, rfl⟩ := Int.eq_ofNat_of_zero_le h0
          have hj : j < s.size ∧ partsL s.data.toList = (s.data.toList.take j, s.data.toList.drop (j + 1)) := by
            rcases HP.out with ⟨h1, _⟩ | ⟨j2, h1, h2, h3⟩
            · omega
            · obtain rfl : j = j2 := by omega
              exact ⟨by rw [← hlen.out]; exact h2, h3⟩
          have hj1 := hj.1
          have HJ := Lib.hid hj.2
          have hw1 : IntKind.i64.wrap ((j : Int) + 1) = ((j + 1 : Nat) : Int) := by rw [IntKind.wrap_i64]; omega
          have hj2 : (j : Int) ≤ (s.size : Int) := by omega
          have hj3 : ((j + 1 : Nat) : Int) ≤ (s.size : Int) := by omega
          clear hj
          go_wp2_with fail
          go_quiet (fail)
          go_wp2_with fail
          go_meet
          exact ⟨_, _, rfl, rfl, by rw [HJ.out, ext_take, ext_drop]; rfl, by rw [ByteArray.size_extract]; omega, by rw [ByteArray.size_extract]; omega, _, rfl⟩
        · have hp : p = -1 := by omega
          subst hp
          have HJ : Hid (partsL s.data.toList = (s.data.toList, [49])) := by
            rcases HP.out with ⟨_, h2⟩ | ⟨j2, h1, _⟩
            · exact h2
            · omega
          go_wp2_with fail
          go_meet
          exact ⟨s, ⟨#[49]⟩, rfl, rfl, HJ, Nat.le_refl _, by show 1 ≤ _; omega, 0, rfl⟩
      case rest =>
        obtain ⟨x, y, rfl, rfl, HP2, hx, hy, m, rfl⟩ := hcut
        clear HP
        have hx2 : x.size ≤ 140737488355328 := by omega
        have eD := digitsF_bd y.data.toList 0 (by omega)
        have eN := digitsF_bd x.data.toList 0 (by omega)
        have HD : Hid (((digitsF 0 (partsL s.data.toList).2 : Nat) : Int) = (digitsF 0 y.data.toList : Nat)) := Lib.hid (by rw [HP2.out])
        have HW0 : Hid (Below w.heap.size w ((w.alloc (.cells #[.int .i64 0, .int .i64 0] 23)).drewN m)) := Lib.hid (((Below.refl _ _).alloc (Nat.le_refl _) _).drewN _)
        go_wp2_with fail
        refine (digits_any x hx2 _).mono ?_
        rintro e w1 ⟨rfl, rfl⟩
        go_wp2_with fail
        refine (digits_any y hy _).mono ?_
        rintro e w1 ⟨rfl, rfl⟩
        obtain ⟨D1, hD1⟩ : ∃ D, digitsF 0 x.data.toList = D := ⟨_, rfl⟩
        obtain ⟨D2, hD2⟩ : ∃ D, digitsF 0 y.data.toList = D := ⟨_, rfl⟩
        rw [hD2] at eD HD ⊢
        rw [hD1] at eN ⊢
        have H1 := Lib.hid hD1
        clear hD1 hD2
        have HRB0 : Hid (Box (((w.alloc (.cells #[.int .i64 0, .int .i64 0] 23)).drewN m).alloc (.cells #[.int .i64 D1, .int .i64 D2] 23)) w.heap.size 0 0) := Lib.hid (((Box.new w 0 0 _).drewN _).alloc _)
        have HXB0 : Hid (Box (((w.alloc (.cells #[.int .i64 0, .int .i64 0] 23)).drewN m).alloc (.cells #[.int .i64 D1, .int .i64 D2] 23)) (w.heap.size + 1) D1 D2) := by
          have h := Box.new ((w.alloc (.cells #[.int .i64 0, .int .i64 0] 23)).drewN m) D1 D2 23
          rw [show ((w.alloc (.cells #[.int .i64 0, .int .i64 0] 23)).drewN m).heap.size = w.heap.size + 1 from by show (w.alloc _).heap.size = _; simp] at h
          exact h
        have HWB0 := Lib.hid (HW0.out.alloc HW0.out.size (.cells #[.int .i64 D1, .int .i64 D2] 23))
        by_cases h0 : x.size = 0
        · have HN : Hid (seemsN (partsL s.data.toList).1 = (D1 : Int)) := Lib.hid (by
            rw [HP2.out]
            show seemsN x.data.toList = _
            have e : x.data.toList = [] := List.length_eq_zero_iff.1 (Array.length_toList.trans h0)
            unfold seemsN
            rw [if_neg (by rw [e]; simp), H1.out])
          have HRB := HRB0
          have HXB := HXB0
          have HWB := HWB0
          clear HRB0 HXB0 HWB0 eN
          cases hv : okF (D1 : Int) D2
          · have hr : R = (0, 0, 4) := by
              rw [← HR.out, rparseL_def _ (D1 : Int) D2 HN.out HD.out, if_neg (by rw [hv]; simp)]
            subst hr
            have HV := Lib.hid hv
            clear hv
            go_wp2_with fail
            refine (rvalid_any _ _ _ HV.out _).mono ?_
            rintro e w3 ⟨rfl, hb3⟩
            have R3 := Lib.hid (HRB.out.below hb3)
            have W3 := Lib.hid (HWB.out.trans (hb3.mono HWB.out.size))
            obtain ⟨r0, r1, r2, r3⟩ := R3.out
            clear hb3
            go_wp2_with fail
            refine bodyPost_ret (v := .tuple #[.agg #[.int .i64 0, .int .i64 0], .int .i64 4]) (by simp [results, Tryd.results36, go_sem, r0, r1, r2, r3]) rfl ⟨rfl, ?_⟩
            exact (W3.out.setCell (Nat.le_refl _) _).setCell (Nat.le_refl _) _
          · have HV := Lib.hid hv
            clear hv
            go_wp2_with fail
            refine (rvalid_any _ _ _ HV.out _).mono ?_
            rintro e w3 ⟨rfl, hb3⟩
            have R3 := Lib.hid (HRB.out.below hb3)
            have X3 := Lib.hid (HXB.out.below hb3)
            have W3 := Lib.hid (HWB.out.trans (hb3.mono HWB.out.size))
            obtain ⟨x0, x1, _, _⟩ := X3.out
            clear hb3
            go_wp2_with fail
            refine (rformat_all _ _ _).mono ?_
            rintro e w4 ⟨he, hb4⟩
            have R4 := Lib.hid (R3.out.below hb4)
            have X4 := Lib.hid (X3.out.below hb4)
            have W4 := Lib.hid (W3.out.trans (hb4.mono W3.out.size))
            clear hb4 x0 x1
            obtain ⟨r0, r1, r2, r3⟩ := R4.out
            obtain ⟨x0, x1, _, _⟩ := X4.out
            have hne : ¬ w.heap.size = w.heap.size + 1 := by omega
            have hne2 : ¬ w.heap.size + 1 = w.heap.size := by omega
            by_cases hq : formatL (D1 : Int) D2 = s.data.toList
            · have hr : R = ((D1 : Int), (D2 : Int), 0) := by
                rw [← HR.out, rparseL_def _ (D1 : Int) D2 HN.out HD.out, if_pos ⟨HV.out, hq⟩]
              subst hr
              rw [hq, ← of_data rfl] at he
              subst he
              clear hq
              go_wp2_with fail
              refine bodyPost_ret (v := .tuple #[.agg #[.int .i64 (D1 : Int), .int .i64 D2], .int .i64 0]) (by simp [results, Tryd.results36, go_sem, r0, r1, r2, r3, x0, x1, hne, hne2]) rfl ⟨rfl, ?_⟩
              exact (W4.out.setCell (Nat.le_refl _) _).setCell (Nat.le_refl _) _
            · have hr : R = (0, 0, 4) := by
                rw [← HR.out, rparseL_def _ (D1 : Int) D2 HN.out HD.out, if_neg (fun h => hq h.2)]
              subst hr
              have hns := str_ne (ba_ne hq)
              generalize (⟨(formatL (D1 : Int) D2).toArray⟩ : ByteArray) = tx at he hns
              subst he
              clear hq
              go_wp2_with fail
              refine bodyPost_ret (v := .tuple #[.agg #[.int .i64 0, .int .i64 0], .int .i64 4]) (by simp [results, Tryd.results36, go_sem, r0, r1, r2, r3, x0, x1, hne, hne2]) rfl ⟨rfl, ?_⟩
              exact (W4.out.setCell (Nat.le_refl _) _).setCell (Nat.le_refl _) _
        · have hpos : 0 < x.size := by omega
          obtain ⟨c, hc⟩ : ∃ c : Nat, x[0].toNat = c := ⟨_, rfl⟩
          have HC := Lib.hid hc
          have hc2 : c < 256 := by rw [← hc]; exact x[0].toNat_lt
          have hcons := Lib.hid (drop_at x 0 hpos)
          clear h0
          by_cases h45 : c = 45
          · have t1 : ((c : Int) == 45) = true := beq_iff_eq.2 (by omega)
            have HN : Hid (seemsN (partsL s.data.toList).1 = -((digitsF 0 (x.extract 1 x.size).data.toList : Nat) : Int)) := Lib.hid (by
              rw [HP2.out]
              show seemsN x.data.toList = _
              have e := hcons.out
              rw [List.drop_zero] at e
              unfold seemsN
              rw [if_pos (by
                rw [e]
                have h3 : x[0] = 45 := UInt8.toNat_inj.1 (HC.out.trans h45)
                rw [h3]
                rfl), ext_drop, e]
              rfl)
            have hx3 : (x.extract 1 x.size).size ≤ 140737488355328 := by rw [ByteArray.size_extract]; omega
            go_wp2_with fail
            refine (digits_any (x.extract 1 x.size) hx3 _).mono ?_
            rintro e w1 ⟨rfl, rfl⟩
            obtain ⟨D3, hD3⟩ : ∃ D, digitsF 0 (x.extract 1 x.size).data.toList = D := ⟨_, rfl⟩
            have eN3 := digitsF_bd (x.extract 1 x.size).data.toList 0 (by omega)
            rw [hD3] at eN3 HN ⊢
            clear hD3 hx3
            have HRB : Hid (Box (((w.alloc (.cells #[.int .i64 0, .int .i64 0] 23)).drewN m).alloc (.cells #[.int .i64 (-(D3 : Int)), .int .i64 D2] 23)) w.heap.size 0 0) := Lib.hid (((Box.new w 0 0 _).drewN _).alloc _)
            have HXB : Hid (Box (((w.alloc (.cells #[.int .i64 0, .int .i64 0] 23)).drewN m).alloc (.cells #[.int .i64 (-(D3 : Int)), .int .i64 D2] 23)) (w.heap.size + 1) (-(D3 : Int)) D2) := by
              have h := Box.new ((w.alloc (.cells #[.int .i64 0, .int .i64 0] 23)).drewN m) (-(D3 : Int)) D2 23
              rw [show ((w.alloc (.cells #[.int .i64 0, .int .i64 0] 23)).drewN m).heap.size = w.heap.size + 1 from by show (w.alloc _).heap.size = _; simp] at h
              exact h
            have HWB := Lib.hid (HW0.out.alloc HW0.out.size (.cells #[.int .i64 (-(D3 : Int)), .int .i64 D2] 23))
            clear HRB0 HXB0 HWB0 eN
            cases hv : okF (-(D3 : Int)) D2
            · have hr : R = (0, 0, 4) := by
                rw [← HR.out, rparseL_def _ (-(D3 : Int)) D2 HN.out HD.out, if_neg (by rw [hv]; simp)]
              subst hr
              have HV := Lib.hid hv
              clear hv
              go_wp2_with fail
              refine (rvalid_any _ _ _ HV.out _).mono ?_
              rintro e w3 ⟨rfl, hb3⟩
              have R3 := Lib.hid (HRB.out.below hb3)
              have W3 := Lib.hid (HWB.out.trans (hb3.mono HWB.out.size))
              obtain ⟨r0, r1, r2, r3⟩ := R3.out
              clear hb3
              go_wp2_with fail
              refine bodyPost_ret (v := .tuple #[.agg #[.int .i64 0, .int .i64 0], .int .i64 4]) (by simp [results, Tryd.results36, go_sem, r0, r1, r2, r3]) rfl ⟨rfl, ?_⟩
              exact (W3.out.setCell (Nat.le_refl _) _).setCell (Nat.le_refl _) _
            · have HV := Lib.hid hv
              clear hv
              go_wp2_with fail
              refine (rvalid_any _ _ _ HV.out _).mono ?_
              rintro e w3 ⟨rfl, hb3⟩
              have R3 := Lib.hid (HRB.out.below hb3)
              have X3 := Lib.hid (HXB.out.below hb3)
              have W3 := Lib.hid (HWB.out.trans (hb3.mono HWB.out.size))
              obtain ⟨x0, x1, _, _⟩ := X3.out
              clear hb3
              go_wp2_with fail
              refine (rformat_all _ _ _).mono ?_
              rintro e w4 ⟨he, hb4⟩
              have R4 := Lib.hid (R3.out.below hb4)
              have X4 := Lib.hid (X3.out.below hb4)
              have W4 := Lib.hid (W3.out.trans (hb4.mono W3.out.size))
              clear hb4 x0 x1
              obtain ⟨r0, r1, r2, r3⟩ := R4.out
              obtain ⟨x0, x1, _, _⟩ := X4.out
              have hne : ¬ w.heap.size = w.heap.size + 1 := by omega
              have hne2 : ¬ w.heap.size + 1 = w.heap.size := by omega
              by_cases hq : formatL (-(D3 : Int)) D2 = s.data.toList
              · have hr : R = ((-(D3 : Int)), (D2 : Int), 0) := by
                  rw [← HR.out, rparseL_def _ (-(D3 : Int)) D2 HN.out HD.out, if_pos ⟨HV.out, hq⟩]
                subst hr
                rw [hq, ← of_data rfl] at he
                subst he
                clear hq
                go_wp2_with fail
                refine bodyPost_ret (v := .tuple #[.agg #[.int .i64 (-(D3 : Int)), .int .i64 D2], .int .i64 0]) (by simp [results, Tryd.results36, go_sem, r0, r1, r2, r3, x0, x1, hne, hne2]) rfl ⟨rfl, ?_⟩
                exact (W4.out.setCell (Nat.le_refl _) _).setCell (Nat.le_refl _) _
              · have hr : R = (0, 0, 4) := by
                  rw [← HR.out, rparseL_def _ (-(D3 : Int)) D2 HN.out HD.out, if_neg (fun h => hq h.2)]
                subst hr
                have hns := str_ne (ba_ne hq)
                generalize (⟨(formatL (-(D3 : Int)) D2).toArray⟩ : ByteArray) = tx at he hns
                subst he
                clear hq
                go_wp2_with fail
                refine bodyPost_ret (v := .tuple #[.agg #[.int .i64 0, .int .i64 0], .int .i64 4]) (by simp [results, Tryd.results36, go_sem, r0, r1, r2, r3, x0, x1, hne, hne2]) rfl ⟨rfl, ?_⟩
                exact (W4.out.setCell (Nat.le_refl _) _).setCell (Nat.le_refl _) _
          · have t1 : ((c : Int) == 45) = false := beq_eq_false_iff_ne.2 (by omega)
            have HN : Hid (seemsN (partsL s.data.toList).1 = (D1 : Int)) := Lib.hid (by
              rw [HP2.out]
              show seemsN x.data.toList = _
              have e := hcons.out
              rw [List.drop_zero] at e
              unfold seemsN
              rw [if_neg (by
                rw [e]
                intro h
                have h2 : x[0] = 45 := by simpa using h
                have h3 := HC.out
                rw [h2] at h3
                exact h45 h3.symm), H1.out])
            have HRB := HRB0
            have HXB := HXB0
            have HWB := HWB0
            clear HRB0 HXB0 HWB0 eN
            cases hv : okF (D1 : Int) D2
            · have hr : R = (0, 0, 4) := by
                rw [← HR.out, rparseL_def _ (D1 : Int) D2 HN.out HD.out, if_neg (by rw [hv]; simp)]
              subst hr
              have HV := Lib.hid hv
              clear hv
              go_wp2_with fail
              refine (rvalid_any _ _ _ HV.out _).mono ?_
              rintro e w3 ⟨rfl, hb3⟩
              have R3 := Lib.hid (HRB.out.below hb3)
              have W3 := Lib.hid (HWB.out.trans (hb3.mono HWB.out.size))
              obtain ⟨r0, r1, r2, r3⟩ := R3.out
              clear hb3
              go_wp2_with fail
              refine bodyPost_ret (v := .tuple #[.agg #[.int .i64 0, .int .i64 0], .int .i64 4]) (by simp [results, Tryd.results36, go_sem, r0, r1, r2, r3]) rfl ⟨rfl, ?_⟩
              exact (W3.out.setCell (Nat.le_refl _) _).setCell (Nat.le_refl _) _
            · have HV := Lib.hid hv
              clear hv
              go_wp2_with fail
              refine (rvalid_any _ _ _ HV.out _).mono ?_
              rintro e w3 ⟨rfl, hb3⟩
              have R3 := Lib.hid (HRB.out.below hb3)
              have X3 := Lib.hid (HXB.out.below hb3)
              have W3 := Lib.hid (HWB.out.trans (hb3.mono HWB.out.size))
              obtain ⟨x0, x1, _, _⟩ := X3.out
              clear hb3
              go_wp2_with fail
              refine (rformat_all _ _ _).mono ?_
              rintro e w4 ⟨he, hb4⟩
              have R4 := Lib.hid (R3.out.below hb4)
              have X4 := Lib.hid (X3.out.below hb4)
              have W4 := Lib.hid (W3.out.trans (hb4.mono W3.out.size))
              clear hb4 x0 x1
              obtain ⟨r0, r1, r2, r3⟩ := R4.out
              obtain ⟨x0, x1, _, _⟩ := X4.out
              have hne : ¬ w.heap.size = w.heap.size + 1 := by omega
              have hne2 : ¬ w.heap.size + 1 = w.heap.size := by omega
              by_cases hq : formatL (D1 : Int) D2 = s.data.toList
              · have hr : R = ((D1 : Int), (D2 : Int), 0) := by
                  rw [← HR.out, rparseL_def _ (D1 : Int) D2 HN.out HD.out, if_pos ⟨HV.out, hq⟩]
                subst hr
                rw [hq, ← of_data rfl] at he
                subst he
                clear hq
                go_wp2_with fail
                refine bodyPost_ret (v := .tuple #[.agg #[.int .i64 (D1 : Int), .int .i64 D2], .int .i64 0]) (by simp [results, Tryd.results36, go_sem, r0, r1, r2, r3, x0, x1, hne, hne2]) rfl ⟨rfl, ?_⟩
                exact (W4.out.setCell (Nat.le_refl _) _).setCell (Nat.le_refl _) _
              · have hr : R = (0, 0, 4) := by
                  rw [← HR.out, rparseL_def _ (D1 : Int) D2 HN.out HD.out, if_neg (fun h => hq h.2)]
                subst hr
                have hns := str_ne (ba_ne hq)
                generalize (⟨(formatL (D1 : Int) D2).toArray⟩ : ByteArray) = tx at he hns
                subst he
                clear hq
                go_wp2_with fail
                refine bodyPost_ret (v := .tuple #[.agg #[.int .i64 0, .int .i64 0], .int .i64 4]) (by simp [results, Tryd.results36, go_sem, r0, r1, r2, r3, x0, x1, hne, hne2]) rfl ⟨rfl, ?_⟩
                exact (W4.out.setCell (Nat.le_refl _) _).setCell (Nat.le_refl _) _

end Go.Proofs.YtkdpglpdcjhhkaaDoor
