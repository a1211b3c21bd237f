/- Excess, of the program and of the document. By the verifier's side. -/
import Derived.Test.YtjipmkgnndldpaaFBkR
import Derived.Test.YtjipmkgnndldpaaFBkMBkXBkY
import Derived.BigQuiet
namespace Go.Proofs.Ytjipmkgnndldpaa
open Go.RowKit
set_option linter.unusedSimpArgs false
set_option linter.unusedVariables false

/-- Some size is out of its range. -/
def overs (zs : List Int) : Bool := zs.any overB

theorem overs_of {zs : List Int} {i : Nat} (hi : i < zs.length) (h : overB (zs.getD i 0) = true) : overs zs = true := by
  unfold overs; rw [List.any_eq_true]
  refine ⟨zs.getD i 0, ?_, h⟩
  have : zs.getD i 0 = zs[i] := by simp [List.getD, List.getElem?_eq_getElem hi]
  rw [this]; exact List.getElem_mem hi
theorem overs_not {zs : List Int} (h : ∀ i, i < zs.length → overB (zs.getD i 0) = false) : overs zs = false := by
  unfold overs; rw [List.any_eq_false]
  intro x hx
  obtain ⟨i, hi, rfl⟩ := List.mem_iff_getElem.1 hx
  have := h i hi
  have e : zs.getD i 0 = zs[i] := by simp [List.getD, List.getElem?_eq_getElem hi]
  rw [e] at this; simp [this]


set_option maxHeartbeats 800000 in
theorem indexOver_any (a : Option Addr) (n cap : Nat) (zs : List Int) (w : World) (h : RowZ w a n cap zs) :
    Calls Try.prog 284 #[.slice a n cap, .func (.func 261) #[] #[]] w (Found (overs zs) w) := by
  have H := Lib.hid h
  have hn : n ≤ 140737488355328 := h.sm
  clear h
  go_enter Try.func284, Try.ntmps284
  go_wp2
  go_loop [8] (fun vi => ∃ k : Nat, vi = .int .i64 k ∧ k ≤ n ∧ Hid (∀ i, i < k → overB (zs.getD i 0) = false)) (fun vi => n - (intOf vi).toNat)
  case atStart => exact ⟨0, rfl, Nat.zero_le _, fun i hi => absurd hi (Nat.not_lt_zero _)⟩
  case round =>
    obtain ⟨k, rfl, hk, hall⟩ := hrel
    by_cases hlt : k < n
    · obtain ⟨x, rfl, hc⟩ := H.out.cell k hlt
      obtain ⟨z, hz⟩ : ∃ z, zs.getD k 0 = z := ⟨_, rfl⟩
      rw [hz] at hc
      have HZ := Lib.hid hz
      clear hz
      cases hb : overB z with
      | true =>
        have HB := Lib.hid hb
        clear hb
        go_wp2_with fail
        refine (oversized_any z _).mono ?_
        rintro e w1 ⟨rfl, rfl⟩
        rw [HB.out]
        go_wp2_with fail
        go_ret
        exact ⟨k, by omega, by omega, by rw [overs_of (by rw [H.out.len]; exact hlt) (by rw [HZ.out]; exact HB.out)]; simp, rfl, rfl⟩
      | false =>
        have HB := Lib.hid hb
        clear hb
        go_wp2_with fail
        refine (oversized_any z _).mono ?_
        rintro e w1 ⟨rfl, rfl⟩
        rw [HB.out]
        go_wp2_with fail
        go_round
        case rel =>
          refine ⟨k + 1, by go_num, by omega, fun i hi => ?_⟩
          by_cases he : i = k
          · subst he; rw [HZ.out]; exact HB.out
          · exact hall.out i (by omega)
        case measure => simp [intOf]; omega
    · obtain rfl : k = n := by omega
      go_wp2_with fail
      go_ret
      exact ⟨-1, by omega, by omega, by rw [overs_not (fun i hi => hall.out i (by rw [H.out.len] at hi; exact hi))]; simp, rfl, rfl⟩

set_option maxHeartbeats 400000 in
theorem containsOver_any (a : Option Addr) (n cap : Nat) (zs : List Int) (w : World) (h : RowZ w a n cap zs) :
    Calls Try.prog 260 #[.slice a n cap, .func (.func 261) #[] #[]] w fun e w' => e = .returned (.bool (overs zs)) ∧ w = w' := by
  have H := Lib.hid h
  clear h
  generalize hb : overs zs = b
  have HB := Lib.hid hb
  clear hb
  go_enter Try.func260, Try.ntmps260
  go_wp2_with fail
  refine (indexOver_any a n cap zs _ H.out).mono ?_
  rintro e w1 ⟨r, h1, h2, h3, rfl, rfl⟩
  rw [HB.out] at h3
  subst h3
  go_wp2_with fail
  go_ret
  exact ⟨rfl, rfl⟩


theorem overB_no (n : Int) : overB n = false ↔ 0 ≤ n ∧ n ≤ 1500 := by
  unfold overB; simp only [Bool.or_eq_false_iff, decide_eq_false_iff_not]; omega
theorem sizes_iff (xs : List Int) : overs xs = false ↔ SizesX xs := by
  constructor
  · intro h i hi
    cases hb : overB (xs.getD i 0) with
    | false => exact (overB_no _).1 hb
    | true => rw [overs_of hi hb] at h; cases h
  · intro h
    exact overs_not fun i hi => (overB_no _).2 (h i hi)

/-- The two blocks that Excess makes first. -/
theorem exc_boxes (w : World) (bn bd rn rd : Int) {W : World} (hW : (w.alloc (.cells #[.int .i64 bn, .int .i64 bd, .int .i64 rn, .int .i64 rd] 46)).alloc (.cells #[.int .i64 0, .int .i64 0] 23) = W) :
    Bk4 W w.heap.size bn bd rn rd ∧ Box W (w.heap.size + 1) 0 0 ∧ Below w.heap.size w W := by
  subst hW
  refine ⟨(Bk4.new w bn bd rn rd _).alloc _, ?_, ((Below.refl _ _).alloc (Nat.le_refl _) _).alloc (by simp) _⟩
  have := Box.new (w.alloc (.cells #[.int .i64 bn, .int .i64 bd, .int .i64 rn, .int .i64 rd] 46)) 0 0 23
  rwa [show (w.alloc (.cells #[.int .i64 bn, .int .i64 bd, .int .i64 rn, .int .i64 rd] 46)).heap.size = w.heap.size + 1 from by simp] at this


set_option maxHeartbeats 3200000 in
theorem excess_any (bn bd rn rd : Int) (xs : List Int) (r : Int × Int × Int) (h : ExcIs rn rd (okB bn bd && okB rn rd) xs r newF) (a : Option Addr) (n cap : Nat) (w : World) (hrow : RowZ w a n cap xs) :
    Calls Try.prog 181 #[bucketV bn bd rn rd, .slice a n cap] w (Gave r w) := by
  obtain ⟨W, hW⟩ : ∃ W, (w.alloc (.cells #[.int .i64 bn, .int .i64 bd, .int .i64 rn, .int .i64 rd] 46)).alloc (.cells #[.int .i64 0, .int .i64 0] 23) = W := ⟨_, rfl⟩
  obtain ⟨hX, hR, hB⟩ := exc_boxes w bn bd rn rd hW
  have HX := Lib.hid hX
  have HR := Lib.hid hR
  have HB := Lib.hid hB
  have HW := Lib.hid hW
  have HL := Lib.hid (hrow.under hB)
  clear hX hR hB hW hrow
  have hlen := HL.out.len
  have hsm := HL.out.sm
  rcases h with ⟨h1, h2, h3, m, hm, rfl⟩ | ⟨h1, rfl⟩
  rotate_left
  · cases hc : (okB bn bd && okB rn rd) with
    | false =>
      have H1 := Lib.hid hc
      clear hc h1
      go_enter Try.func181, Try.ntmps181
      go_upto_region 1 with fail
      rw [HW.out]
      obtain ⟨c0, c1, c2, c3⟩ := HX.out
      go_wp2_with fail
      clear c0 c1 c2 c3
      refine (faulty_any _ _ _ _ _ H1.out _).mono ?_
      rintro e u1 ⟨rfl, hb⟩
      have HX1 := Lib.hid (HX.out.below hb)
      have HRX := Lib.hid (HR.out.below hb)
      have HBX := Lib.hid (HB.out.trans (hb.mono HB.out.size))
      have HL1 := Lib.hid (HL.out.under hb)
      clear hb
      obtain ⟨e0, e1, e2, e3⟩ := HRX.out
      go_wp2_with fail
      refine bodyPost_ret (v := .tuple #[.agg #[.int .i64 0, .int .i64 0], .int .i64 2]) (by simp [results, Try.results181, go_sem, e0, e1, e2, e3]) rfl ⟨rfl, ?_⟩
      exact (HBX.out.setCell (p := ⟨w.heap.size + 1, 0, none⟩) (Nat.le_succ _) _).setCell (p := ⟨w.heap.size + 1, 1, none⟩) (Nat.le_succ _) _
    | true =>
      have H1 := Lib.hid hc
      by_cases hl : 381 < n
      · have t1 : (381 : Int) < (n : Int) := by omega
        have t2 : decide ((381 : Int) < (n : Int)) = true := decide_eq_true t1
        clear hc h1
        go_enter Try.func181, Try.ntmps181
        go_upto_region 1 with fail
        rw [HW.out]
        obtain ⟨c0, c1, c2, c3⟩ := HX.out
        go_wp2_with fail
        clear c0 c1 c2 c3
        refine (faulty_any _ _ _ _ _ H1.out _).mono ?_
        rintro e u1 ⟨rfl, hb⟩
        have HX1 := Lib.hid (HX.out.below hb)
        have HRX := Lib.hid (HR.out.below hb)
        have HBX := Lib.hid (HB.out.trans (hb.mono HB.out.size))
        have HL1 := Lib.hid (HL.out.under hb)
        clear hb
        obtain ⟨e0, e1, e2, e3⟩ := HRX.out
        go_wp2_with fail
        refine bodyPost_ret (v := .tuple #[.agg #[.int .i64 0, .int .i64 0], .int .i64 2]) (by simp [results, Try.results181, go_sem, e0, e1, e2, e3]) rfl ⟨rfl, ?_⟩
        exact (HBX.out.setCell (p := ⟨w.heap.size + 1, 0, none⟩) (Nat.le_succ _) _).setCell (p := ⟨w.heap.size + 1, 1, none⟩) (Nat.le_succ _) _
      · have t1 : ¬ (381 : Int) < (n : Int) := by omega
        have t2 : decide ((381 : Int) < (n : Int)) = false := decide_eq_false t1
        have HO := Lib.hid (show overs xs = true by
          cases ho : overs xs with
          | true => rfl
          | false => exact absurd ⟨hc, by omega, (sizes_iff xs).1 ho⟩ h1)
        clear hc h1
        go_enter Try.func181, Try.ntmps181
        go_upto_region 1 with fail
        rw [HW.out]
        obtain ⟨c0, c1, c2, c3⟩ := HX.out
        go_wp2_with fail
        clear c0 c1 c2 c3
        refine (faulty_any _ _ _ _ _ H1.out _).mono ?_
        rintro e u1 ⟨rfl, hb⟩
        have HX1 := Lib.hid (HX.out.below hb)
        have HRX := Lib.hid (HR.out.below hb)
        have HBX := Lib.hid (HB.out.trans (hb.mono HB.out.size))
        have HL1 := Lib.hid (HL.out.under hb)
        clear hb
        go_wp2_with fail
        refine (containsOver_any a n cap xs _ HL1.out).mono ?_
        rintro e u2 ⟨rfl, rfl⟩
        rw [HO.out]
        obtain ⟨e0, e1, e2, e3⟩ := HRX.out
        go_wp2_with fail
        refine bodyPost_ret (v := .tuple #[.agg #[.int .i64 0, .int .i64 0], .int .i64 2]) (by simp [results, Try.results181, go_sem, e0, e1, e2, e3]) rfl ⟨rfl, ?_⟩
        exact (HBX.out.setCell (p := ⟨w.heap.size + 1, 0, none⟩) (Nat.le_succ _) _).setCell (p := ⟨w.heap.size + 1, 1, none⟩) (Nat.le_succ _) _
  have H1 := Lib.hid h1
  rw [Bool.and_eq_true] at h1
  obtain ⟨x3, x4, rfl, rfl, r0, r1, r2⟩ := okB_nat h1.2
  have t1 : ¬ (381 : Int) < (n : Int) := by omega
  have t2 : decide ((381 : Int) < (n : Int)) = false := decide_eq_false t1
  have HO := Lib.hid ((sizes_iff xs).2 h3)
  have HM := Lib.hid hm
  have HS := Lib.hid (And.intro h2 h3)
  have hmb := great_bd h3 h2 (show (0 : Int) ≤ (x3 : Int) by omega) (by omega) (show (1 : Int) ≤ (x4 : Int) by omega) (by omega) (Nat.le_refl _) (fun i j hp => hp) hm
  have HMB := Lib.hid hmb
  generalize hr : newF m x4 = r
  have HRR := Lib.hid hr
  clear hr hm h1 h2 h3 hmb
  obtain ⟨ra, rb, re⟩ := r
  go_enter Try.func181, Try.ntmps181
  go_upto_region 1 with fail
  rw [HW.out]
  obtain ⟨c0, c1, c2, c3⟩ := HX.out
  go_wp2_with fail
  clear c0 c1 c2 c3
  refine (faulty_any _ _ _ _ _ H1.out _).mono ?_
  rintro e u1 ⟨rfl, hb⟩
  have HX1 := Lib.hid (HX.out.below hb)
  have HRX := Lib.hid (HR.out.below hb)
  have HBX := Lib.hid (HB.out.trans (hb.mono HB.out.size))
  have HL1 := Lib.hid (HL.out.under hb)
  clear hb
  go_wp2_with fail
  refine (containsOver_any a n cap xs _ HL1.out).mono ?_
  rintro e u2 ⟨rfl, rfl⟩
  rw [HO.out]
  go_wp2_with fail
  obtain ⟨c0, c1, c2, c3⟩ := HX1.out
  go_loop [6, 7, 24] (fun s6 s7 s24 => ∃ (k : Nat) (x y : Int), s24 = .int .i64 k ∧ s6 = .int .i64 x ∧ s7 = .int .i64 y ∧ k ≤ n ∧ Hid (TakenX xs x3 x4 k x) ∧ Hid (GreatX (PairX k) (spanX xs x3 x4) y)) (fun _ _ s24 => n - (intOf s24).toNat)
  case atStart => exact ⟨0, 0, 0, by go_num, by go_num, by go_num, by omega, TakenX.start _ _ _, GreatX.none _ (fun i j h => absurd h.2 (Nat.not_lt_zero _))⟩
  case round =>
    obtain ⟨k, x, y, rfl, rfl, rfl, hk, HT, HG⟩ := hrel
    by_cases hlt : k < n
    · obtain ⟨ad, rfl, hc0⟩ := HL1.out.cell k hlt
      obtain ⟨s, hs⟩ : ∃ s, xs.getD k 0 = s := ⟨_, rfl⟩
      rw [hs] at hc0
      have hsz := HS.out.2 k (by omega)
      rw [hs] at hsz
      obtain ⟨hs0, hs1⟩ := hsz
      have hT2 := HT.out.next (show (0 : Int) ≤ (x3 : Int) by omega)
      rw [hs] at hT2
      have hxb := taken_bd HS.out.2 HS.out.1 (show (0 : Int) ≤ (x3 : Int) by omega) (by omega) (show (1 : Int) ≤ (x4 : Int) by omega) (by omega) (show k ≤ xs.length by omega) HT.out
      have hyb := great_bd HS.out.2 HS.out.1 (show (0 : Int) ≤ (x3 : Int) by omega) (by omega) (show (1 : Int) ≤ (x4 : Int) by omega) (by omega) (show k ≤ xs.length by omega) (fun i j hp => hp) HG.out
      obtain ⟨hx0, hx1⟩ := hxb
      obtain ⟨hy0, hy1⟩ := hyb
      obtain ⟨P, hP⟩ : ∃ P, s * (x4 : Int) = P := ⟨_, rfl⟩
      have hP0 : 0 ≤ P := by rw [← hP]; exact Int.mul_nonneg hs0 (by omega)
      have hP1 : P ≤ 1500 * 1073741824 := by rw [← hP]; exact Int.le_trans (Int.mul_le_mul_of_nonneg_left (show (x4 : Int) ≤ 1073741824 by omega) hs0) (Int.mul_le_mul_of_nonneg_right hs1 (by omega))
      obtain ⟨d, hd⟩ : ∃ d, x - (x3 : Int) = d := ⟨_, rfl⟩
      rw [hd, hP] at hT2
      have hdb : -409095634944 - 1073741824 ≤ d ∧ d ≤ 700000000000000 := by omega
      obtain ⟨hd0, hd1⟩ := hdb
      clear hs
      by_cases hlt0 : d < 0
      · rw [show max d 0 + P = P by omega] at hT2
        have hG2 := HG.out.next hT2
        have HT2 := Lib.hid hT2
        clear hT2
        by_cases hlt1 : y < P
        · rw [show max y P = P by omega] at hG2
          have HG2 := Lib.hid hG2
          clear hG2
          go_wp2_with fail
          go_round
          case rel => exact ⟨k + 1, _, _, by go_num, rfl, rfl, by omega, HT2, HG2⟩
          case measure => simp [intOf]; omega
        · rw [show max y P = y by omega] at hG2
          have HG2 := Lib.hid hG2
          clear hG2
          go_wp2_with fail
          go_round
          case rel => exact ⟨k + 1, _, _, by go_num, rfl, rfl, by omega, HT2, HG2⟩
          case measure => simp [intOf]; omega
      · obtain ⟨X, hX⟩ : ∃ X, d + P = X := ⟨_, rfl⟩
        rw [show max d 0 + P = X by omega] at hT2
        have hXb : 0 ≤ X ∧ X ≤ 800000000000000 := by omega
        obtain ⟨hX0, hX1⟩ := hXb
        have hG2 := HG.out.next hT2
        have HT2 := Lib.hid hT2
        clear hT2
        by_cases hlt1 : y < X
        · rw [show max y X = X by omega] at hG2
          have HG2 := Lib.hid hG2
          clear hG2
          go_wp2_with fail
          go_round
          case rel => exact ⟨k + 1, _, _, by go_num, rfl, rfl, by omega, HT2, HG2⟩
          case measure => simp [intOf]; omega
        · rw [show max y X = y by omega] at hG2
          have HG2 := Lib.hid hG2
          clear hG2
          go_wp2_with fail
          go_round
          case rel => exact ⟨k + 1, _, _, by go_num, rfl, rfl, by omega, HT2, HG2⟩
          case measure => simp [intOf]; omega
    · obtain rfl : k = n := by omega
      obtain rfl : y = m := by have h := HG.out; rw [← hlen] at h; exact h.unique HM.out
      go_wp2_with fail
      refine (new_all y x4 ⟨by have := HMB.out; omega, by have := HMB.out; omega⟩ ⟨by omega, by omega⟩ _).mono ?_
      rintro e v9 ⟨rfl, hb⟩
      rw [HRR.out]
      obtain ⟨e0, e1, e2, e3⟩ := HRX.out.below hb
      have HBZ := Lib.hid (HBX.out.trans (hb.mono HBX.out.size))
      clear hb
      go_wp2_with fail
      refine bodyPost_ret (v := .tuple #[.agg #[.int .i64 ra, .int .i64 rb], .int .i64 re]) (by simp [results, Try.results181, go_sem, e0, e1, e2, e3]) rfl ⟨rfl, ?_⟩
      exact (HBZ.out.setCell (p := ⟨w.heap.size + 1, 0, none⟩) (Nat.le_succ _) _).setCell (p := ⟨w.heap.size + 1, 1, none⟩) (Nat.le_succ _) _

end Go.Proofs.Ytjipmkgnndldpaa
