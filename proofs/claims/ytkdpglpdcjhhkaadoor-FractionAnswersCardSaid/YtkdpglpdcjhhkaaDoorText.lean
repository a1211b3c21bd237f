/- Contracts of package fraction: Format and Parse. By the verifier's side. -/
import Derived.Test.YtkdpglpdcjhhkaaDoorFracB
import Derived.Test.YtkdpglpdcjhhkaaDoorLaid
import Derived.Lib.ItoaLen
namespace Go.Proofs.YtkdpglpdcjhhkaaDoor
open Go.RowKit
set_option linter.unusedSimpArgs false

/-- The text of a fraction; nothing if it is not valid. -/
def formatL (n d : Int) : List UInt8 := if okF n d then (if d = 1 then Lib.itoa n else Lib.itoa n ++ 47 :: Lib.itoa d) else []

theorem digit (u : Nat) (h : u < 10) : Lib.decDigits u = [UInt8.ofNat (48 + u)] := by unfold Lib.decDigits; simp [h]
theorem ba3 (a b : List UInt8) : ({ data := a.toArray } ++ ({ data := #[47] } ++ { data := b.toArray }) : ByteArray) = ⟨(a ++ 47 :: b).toArray⟩ := by
  apply ByteArray.ext
  simp [ByteArray.data_append]

theorem below_grow (w : World) (k : Nat) (os : Array Obj) : Below w.heap.size w (Sort.grow (w.drewN k) os) := by
  refine ⟨rfl, rfl, rfl, ?_, fun i hi => ?_⟩
  · show w.heap.size ≤ (w.heap ++ os).size
    simp
  · show (w.heap ++ os)[i]? = _
    rw [Array.getElem?_append_left hi]

theorem itoa_says (n : Int) (h : In64 n) (w : World) (h0 : Lib0 w) : Calls Tryd.prog 45 #[.int .i64 n] w (Says (.string ⟨(Lib.itoa n).toArray⟩) w) :=
  (Tryd.strconv_Itoa n h.1 h.2 w h0.tab).mono fun _ _ ⟨he, k, os, hw⟩ => ⟨he, by rw [hw]; exact below_grow w k os⟩

set_option maxHeartbeats 800000 in
theorem format_all (n d : Int) (w : World) (h0 : Lib0 w) : Calls Tryd.prog 24 #[.agg #[.int .i64 n, .int .i64 d]] w (Says (.string ⟨(formatL n d).toArray⟩) w) := by
  have H0 := Lib.hid h0
  clear h0
  by_cases h : okF n d = true
  · have H := Lib.hid h
    have hb := (okF_iff n d).1 h
    have hn : In64 n := ⟨by omega, by omega⟩
    have hd : In64 d := ⟨by omega, by omega⟩
    clear h hb
    by_cases h1 : d = 1
    · subst h1
      have HF : Hid (formatL n 1 = Lib.itoa n) := Lib.hid (by unfold formatL; rw [if_pos H.out, if_pos rfl])
      go_enter Tryd.func24, Tryd.ntmps24
      go_wp2_with fail
      refine (valid_all n 1 _ H.out _).mono ?_
      rintro e w1 ⟨rfl, hb⟩
      obtain ⟨hc, hf⟩ := bcell hb
      have hz : w.heap.size < w1.heap.size := by have := hb.size; simp at this; omega
      have HB := Lib.hid (one1 hb)
      go_wp2_with fail
      refine (itoa_says n hn w1 (H0.out.below HB.out)).mono ?_
      rintro e w2 ⟨rfl, hb2⟩
      obtain ⟨hc2, hf2⟩ := bcell hb2
      generalize hx : (⟨(Lib.itoa n).toArray⟩ : ByteArray) = x
      have HX := Lib.hid hx
      clear hx
      go_wp2_with fail
      go_ret
      exact ⟨by rw [HF.out, HX.out]; rfl, HB.out.trans (hb2.mono (by omega))⟩
    · have hd1 : (d == 1) = false := by simpa using h1
      have hd2 : (d != 1) = true := by simpa using h1
      have HF : Hid (formatL n d = Lib.itoa n ++ 47 :: Lib.itoa d) := Lib.hid (by unfold formatL; rw [if_pos H.out, if_neg h1])
      clear h1
      have l1 : (Lib.itoa n).length ≤ 21 := Lib.itoa_length_le n hn.1 hn.2
      have l2 : (Lib.itoa d).length ≤ 21 := Lib.itoa_length_le d hd.1 hd.2
      go_enter Tryd.func24, Tryd.ntmps24
      go_wp2_with fail
      refine (valid_all n d _ H.out _).mono ?_
      rintro e w1 ⟨rfl, hb⟩
      obtain ⟨hc, hf⟩ := bcell hb
      have hz : w.heap.size < w1.heap.size := by have := hb.size; simp at this; omega
      have HB := Lib.hid (one1 hb)
      go_wp2_with fail
      refine (itoa_says n hn w1 (H0.out.below HB.out)).mono ?_
      rintro e w2 ⟨rfl, hb2⟩
      obtain ⟨hc2, hf2⟩ := bcell hb2
      have hz2 : w.heap.size < w2.heap.size := by have := hb2.size; omega
      have HB2 := Lib.hid (HB.out.trans (hb2.mono (by omega)))
      go_wp2_with fail
      refine (itoa_says d hd w2 (H0.out.below HB2.out)).mono ?_
      rintro e w3 ⟨rfl, hb3⟩
      go_wp2_with fail
      go_ret
      exact ⟨by rw [HF.out, ← ba3]; rfl, HB2.out.trans (hb3.mono (by omega))⟩
  · have H := Lib.hid (show okF n d = false by simpa using h)
    have HF : Hid (formatL n d = []) := Lib.hid (by unfold formatL; rw [if_neg h])
    clear h
    go_enter Tryd.func24, Tryd.ntmps24
    go_wp2_with fail
    refine (valid_all n d _ H.out _).mono ?_
    rintro e w1 ⟨rfl, hb⟩
    go_wp2_with fail
    go_ret
    exact ⟨by rw [HF.out]; rfl, one1 hb⟩

/-- What a text gives whose parts are the numbers n and d. -/
def checkL (l : List UInt8) (n d : Int) : Int × Int × Int := if formatL n d = l then (n, d, 0) else (0, 0, 4)

/-- What Parse gives. -/
def parseL (l : List UInt8) : Int × Int × Int :=
  match Lib.atoiAll (Lib.cut l [47]).1 with
  | .ok n =>
    if (Lib.cut l [47]).2.2 then
      match Lib.atoiAll (Lib.cut l [47]).2.1 with
      | .ok d => checkL l n d
      | _ => (0, 0, 4)
    else checkL l n 1
  | _ => (0, 0, 4)

/-- strconv.Atoi, however it ends: a number and no error, or some number and an error. -/
def Atoi (l : List UInt8) (w : World) (e : Ending) (w' : World) : Prop :=
  Below w.heap.size w w' ∧ ((∃ v, Lib.atoiAll l = .ok v ∧ In64 v ∧ e = .returned (.tuple #[.int .i64 v, .nilIface])) ∨
    ((∀ v, Lib.atoiAll l ≠ .ok v) ∧ ∃ v t p, e = .returned (.tuple #[.int .i64 v, .iface t p])))

theorem atoi_all (s : ByteArray) (hs : s.size < 4294967281) (w : World) (h0 : Lib0 w) : Calls Tryd.prog 49 #[.string s] w (Atoi s.data.toList w) := by
  obtain ⟨_, _, ⟨t1, p1, v1⟩, ⟨t2, p2, v2⟩⟩ := h0
  rcases ha : Lib.atoiAll s.data.toList with v | _ | _
  · refine (Tryd.strconv_Atoi_ok s (by omega) v ha w).mono fun e w' ⟨he, hw⟩ => ⟨?_, .inl ⟨v, ha, Lib.atoiAll_bounds ha, he⟩⟩
    rcases hw with rfl | ⟨t, rfl⟩
    · exact Below.refl _ _
    · exact Lib.bytesWorld_below _ _ _
  · refine (Any.strconv_Atoi_syntax_var Tryd.laysC172 s (by omega) ha t1 p1 w v1).mono fun e w' ⟨N, he, _, _, hw⟩ => ⟨hw, .inr ⟨(fun v h => by rw [ha] at h; cases h), _, _, _, he⟩⟩
  · refine (Tryd.strconv_Atoi_range_var s (by omega) ha t2 p2 w v2).mono fun e w' ⟨N, he, _, _, hw⟩ => ⟨hw, .inr ⟨(fun v h => by rw [ha] at h; cases h), _, _, _, he⟩⟩

theorem cut_says (s : ByteArray) (hs : s.size < 4294967281) (w : World) (h0 : Lib0 w) :
    Calls Tryd.prog 48 #[.string s, .string ⟨#[47]⟩] w (Drew (.tuple #[.string ⟨(Lib.cut s.data.toList [47]).1.toArray⟩, .string ⟨(Lib.cut s.data.toList [47]).2.1.toArray⟩, .bool (Lib.cut s.data.toList [47]).2.2]) w) := by
  obtain ⟨⟨m, hm⟩, _, _, _⟩ := h0
  exact Tryd.strings_Cut s ⟨#[47]⟩ m w hs hm

/-- One fresh block of two cells stands at the place of the result. -/
theorem cut_size (l : List UInt8) : (Lib.cut l [47]).1.length ≤ l.length ∧ (Lib.cut l [47]).2.1.length ≤ l.length := by
  unfold Lib.cut
  split
  · simp only [List.length_take, List.length_drop]; omega
  · simp

theorem parseL_no1 {l : List UInt8} (h : ∀ v, Lib.atoiAll (Lib.cut l [47]).1 ≠ .ok v) : parseL l = (0, 0, 4) := by
  unfold parseL
  rcases ha : Lib.atoiAll (Lib.cut l [47]).1 with v | _ | _
  · exact absurd ha (h v)
  · rfl
  · rfl
theorem parseL_no2 {l : List UInt8} {n : Int} (h1 : Lib.atoiAll (Lib.cut l [47]).1 = .ok n) (hc : (Lib.cut l [47]).2.2 = true) (h : ∀ v, Lib.atoiAll (Lib.cut l [47]).2.1 ≠ .ok v) : parseL l = (0, 0, 4) := by
  unfold parseL
  rw [h1]
  rcases ha : Lib.atoiAll (Lib.cut l [47]).2.1 with v | _ | _
  · exact absurd ha (h v)
  · simp [hc, ha]
  · simp [hc, ha]
theorem parseL_one {l : List UInt8} {n : Int} (h1 : Lib.atoiAll (Lib.cut l [47]).1 = .ok n) (hc : (Lib.cut l [47]).2.2 = false) : parseL l = checkL l n 1 := by
  unfold parseL
  rw [h1]
  simp only [hc]
  rfl
theorem parseL_two {l : List UInt8} {n d : Int} (h1 : Lib.atoiAll (Lib.cut l [47]).1 = .ok n) (hc : (Lib.cut l [47]).2.2 = true) (h2 : Lib.atoiAll (Lib.cut l [47]).2.1 = .ok d) : parseL l = checkL l n d := by
  unfold parseL
  rw [h1]
  simp only [hc, if_true, h2]

theorem data_of {f : ByteArray} {l : List UInt8} (h : f = ⟨l.toArray⟩) : f.data.toList = l := by rw [h]
theorem of_data {f : ByteArray} {l : List UInt8} (h : f.data.toList = l) : f = ⟨l.toArray⟩ := by
  subst h; rfl
theorem str_ne {x s : ByteArray} (h : ¬ x = s) : (x.toList == s.toList) = false := by
  rw [beq_eq_false_iff_ne, ByteArray.toList_eq, ByteArray.toList_eq]
  exact fun e => h (WideShapes.bytes_inj e)
theorem ba_ne {f : ByteArray} {l : List UInt8} (h : ¬ l = f.data.toList) : ¬ (⟨l.toArray⟩ : ByteArray) = f := fun e => h (by rw [← e])

set_option maxHeartbeats 1600000 in
theorem parse_all (s : ByteArray) (hs : s.size < 4294967281) (w : World) (h0 : Lib0 w) : Calls Tryd.prog 35 #[.string s] w (Gave (parseL s.data.toList) w) := by
  obtain ⟨r, hr⟩ : ∃ r, parseL s.data.toList = r := ⟨_, rfl⟩
  have HR := Lib.hid hr
  rw [hr]
  clear hr
  have H0 := Lib.hid h0
  clear h0
  obtain ⟨f, hf1⟩ : ∃ f : ByteArray, f = ⟨(Lib.cut s.data.toList [47]).1.toArray⟩ := ⟨_, rfl⟩
  obtain ⟨g, hg1⟩ : ∃ g : ByteArray, g = ⟨(Lib.cut s.data.toList [47]).2.1.toArray⟩ := ⟨_, rfl⟩
  obtain ⟨c, hc1⟩ : ∃ c : Bool, c = (Lib.cut s.data.toList [47]).2.2 := ⟨_, rfl⟩
  have hfs : f.size < 4294967281 := by
    have h1 := (cut_size s.data.toList).1
    have h2 : s.data.toList.length = s.size := Array.length_toList
    rw [hf1]; exact Nat.lt_of_le_of_lt (show (List.toArray _).size ≤ s.size by rw [List.size_toArray]; omega) hs
  have hgs : g.size < 4294967281 := by
    have h1 := (cut_size s.data.toList).2
    have h2 : s.data.toList.length = s.size := Array.length_toList
    rw [hg1]; exact Nat.lt_of_le_of_lt (show (List.toArray _).size ≤ s.size by rw [List.size_toArray]; omega) hs
  have HC := Lib.hid (And.intro hf1 (And.intro hg1 hc1))
  clear hf1 hg1 hc1
  go_enter Tryd.func35, Tryd.ntmps35
  go_wp2_with fail
  refine (cut_says s hs _ (H0.out.below ((Below.refl _ _).alloc (Nat.le_refl _) _))).mono ?_
  rintro e w1 ⟨he, m, rfl⟩
  rw [← HC.out.1, ← HC.out.2.1, ← HC.out.2.2] at he
  subst he
  go_wp2_with fail
  refine (atoi_all f hfs _ (H0.out.below (((Below.refl _ _).alloc (Nat.le_refl _) _).drewN _))).mono ?_
  rintro e w1 ⟨hb, hat⟩
  obtain ⟨hc, hf⟩ := bcell hb
  have hz : w.heap.size < w1.heap.size := by have := hb.size; simp at this; omega
  have HB : Hid (Below w.heap.size w w1) := Lib.hid ((((Below.refl _ _).alloc (Nat.le_refl _) _).drewN _).trans (hb.mono (by simp)))
  rcases hat with ⟨n, hn, hni, rfl⟩ | ⟨hno, v, tt, pp, rfl⟩
  · rw [data_of HC.out.1] at hn
    have HN := Lib.hid hn
    clear hn
    cases hcc : c
    · subst hcc
      have HQ : Hid (parseL s.data.toList = checkL s.data.toList n 1) := Lib.hid (parseL_one HN.out HC.out.2.2.symm)
      go_wp2_with fail
      refine (format_all n 1 _ (H0.out.below (HB.out.alloc (by omega) _))).mono ?_
      rintro e w9 ⟨he, hb9⟩
      obtain ⟨hc9, hf9⟩ := bcell hb9
      have hz9 : w1.heap.size < w9.heap.size := by have := hb9.size; simp at this; omega
      have hzz9 : w.heap.size < w9.heap.size := by omega
      have hlt : w.heap.size < w1.heap.size + 1 := by omega
      have hne : ¬ w.heap.size = w1.heap.size := by omega
      have HB9 : Hid (Below w.heap.size w w9) := Lib.hid ((HB.out.alloc (by omega) _).trans (hb9.mono (by simp; omega)))
      by_cases hq : formatL n 1 = s.data.toList
      · rw [hq, ← of_data rfl] at he
        subst he
        obtain rfl : r = (n, 1, 0) := by rw [← HR.out, HQ.out]; unfold checkL; rw [if_pos hq]
        clear hq
        go_wp2_with fail
        refine bodyPost_ret (v := .tuple #[.agg #[.int .i64 n, .int .i64 1], .int .i64 0]) (by simp [results, Tryd.results35, go_sem, hc9, hf9, hz9, hzz9, hc, hf, hz, hlt, hne]) rfl ⟨rfl, ?_⟩
        exact (HB9.out.setCell (by simp) _).setCell (by simp) _
      · have hns := str_ne (ba_ne hq)
        obtain rfl : r = (0, 0, 4) := by rw [← HR.out, HQ.out]; unfold checkL; rw [if_neg hq]
        generalize (⟨(formatL n 1).toArray⟩ : ByteArray) = x at he hns
        subst he
        clear hq
        go_wp2_with fail
        refine bodyPost_ret (v := .tuple #[.agg #[.int .i64 0, .int .i64 0], .int .i64 4]) (by simp [results, Tryd.results35, go_sem, hc9, hf9, hz9, hzz9, hc, hf, hz, hlt, hne]) rfl ⟨rfl, ?_⟩
        exact (HB9.out.setCell (by simp) _).setCell (by simp) _
    · subst hcc
      go_wp2_with fail
      refine (atoi_all g hgs _ (H0.out.below HB.out)).mono ?_
      rintro e w2 ⟨hb2, hat⟩
      obtain ⟨hc2, hf2⟩ := bcell hb2
      have hz2 : w.heap.size < w2.heap.size := by have := hb2.size; omega
      have HB2 : Hid (Below w.heap.size w w2) := Lib.hid (HB.out.trans (hb2.mono (by omega)))
      rcases hat with ⟨d, hd, hdi, rfl⟩ | ⟨hno, v, tt, pp, rfl⟩
      · rw [data_of HC.out.2.1] at hd
        have HQ : Hid (parseL s.data.toList = checkL s.data.toList n d) := Lib.hid (parseL_two HN.out HC.out.2.2.symm hd)
        clear hd
        go_wp2_with fail
        refine (format_all n d _ (H0.out.below (HB2.out.alloc (by omega) _))).mono ?_
        rintro e w9 ⟨he, hb9⟩
        obtain ⟨hc9, hf9⟩ := bcell hb9
        have hz9 : w2.heap.size < w9.heap.size := by have := hb9.size; simp at this; omega
        have hzz9 : w.heap.size < w9.heap.size := by omega
        have hlt : w.heap.size < w2.heap.size + 1 := by omega
        have hne : ¬ w.heap.size = w2.heap.size := by omega
        have HB9 : Hid (Below w.heap.size w w9) := Lib.hid ((HB2.out.alloc (by omega) _).trans (hb9.mono (by simp; omega)))
        by_cases hq : formatL n d = s.data.toList
        · rw [hq, ← of_data rfl] at he
          subst he
          obtain rfl : r = (n, d, 0) := by rw [← HR.out, HQ.out]; unfold checkL; rw [if_pos hq]
          clear hq
          go_wp2_with fail
          refine bodyPost_ret (v := .tuple #[.agg #[.int .i64 n, .int .i64 d], .int .i64 0]) (by simp [results, Tryd.results35, go_sem, hc9, hf9, hz9, hzz9, hc, hf, hz, hc2, hf2, hz2, hlt, hne]) rfl ⟨rfl, ?_⟩
          exact (HB9.out.setCell (by simp) _).setCell (by simp) _
        · have hns := str_ne (ba_ne hq)
          obtain rfl : r = (0, 0, 4) := by rw [← HR.out, HQ.out]; unfold checkL; rw [if_neg hq]
          generalize (⟨(formatL n d).toArray⟩ : ByteArray) = x at he hns
          subst he
          clear hq
          go_wp2_with fail
          refine bodyPost_ret (v := .tuple #[.agg #[.int .i64 0, .int .i64 0], .int .i64 4]) (by simp [results, Tryd.results35, go_sem, hc9, hf9, hz9, hzz9, hc, hf, hz, hc2, hf2, hz2, hlt, hne]) rfl ⟨rfl, ?_⟩
          exact (HB9.out.setCell (by simp) _).setCell (by simp) _
      · rw [data_of HC.out.2.1] at hno
        obtain rfl : r = (0, 0, 4) := HR.out.symm.trans (parseL_no2 HN.out HC.out.2.2.symm hno)
        clear hno
        go_wp2_with fail
        refine bodyPost_ret (v := .tuple #[.agg #[.int .i64 0, .int .i64 0], .int .i64 4]) (by simp [results, Tryd.results35, go_sem, hc, hf, hz, hc2, hf2, hz2]) rfl ⟨rfl, ?_⟩
        exact (HB2.out.setCell (by simp) _).setCell (by simp) _
  · rw [data_of HC.out.1] at hno
    obtain rfl : r = (0, 0, 4) := HR.out.symm.trans (parseL_no1 hno)
    clear hno
    go_wp2_with fail
    refine bodyPost_ret (v := .tuple #[.agg #[.int .i64 0, .int .i64 0], .int .i64 4]) (by simp [results, Tryd.results35, go_sem, hc, hf, hz]) rfl ⟨rfl, ?_⟩
    exact (HB.out.setCell (by simp) _).setCell (by simp) _

end Go.Proofs.YtkdpglpdcjhhkaaDoor
