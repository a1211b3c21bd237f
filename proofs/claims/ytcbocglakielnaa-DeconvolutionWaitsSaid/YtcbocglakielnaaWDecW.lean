/- The document's Wait. By the verifier's side. -/
import Derived.Test.YtcbocglakielnaaWDecDDecEDecFDecHDecG
import Derived.Test.YtcbocglakielnaaWConER
namespace Go.Proofs.Ytcbocglakielnaa
open Go.RowKit
set_option linter.unusedSimpArgs false
set_option linter.unusedVariables false

theorem rep_getD {N i : Nat} {x : Int} : (List.replicate N (0 : Int) ++ [x]).getD i 0 = if i = N then x else 0 := by
  rcases Nat.lt_trichotomy i N with h | h | h
  · rw [if_neg (by omega)]; simp [List.getD, List.getElem?_append, h]
  · subst h; simp [List.getD]
  · rw [if_neg (by omega)]
    simp [List.getD, List.getElem?_append, show ¬ i < N by omega, show ¬ i - N = 0 by omega]

theorem rep_good {N : Nat} (h1 : 1 ≤ N) (h : N ≤ 399) : Good (List.replicate N (0 : Int) ++ [4611686018427387904]) 1 0 ∧ InfC (List.replicate N (0 : Int) ++ [4611686018427387904]) := by
  have hl : (List.replicate N (0 : Int) ++ [4611686018427387904]).length = N + 1 := by simp
  have hlast : InfC (List.replicate N (0 : Int) ++ [4611686018427387904]) := by
    rw [infC_iff, hl, rep_getD, if_pos (by omega)]
  refine ⟨⟨by omega, by omega, by omega, by omega, by omega, by omega, fun i hi => ?_, fun i hi => ?_, fun _ => ⟨rfl, rfl⟩, fun k => absurd hlast k⟩, hlast⟩
  · rw [rep_getD]
    split
    · exact .inr rfl
    · exact .inl ⟨by omega, by omega⟩
  · rw [rep_getD, rep_getD, if_neg (by omega)]
    split <;> omega

/-- A wait of n ticks. -/
def eWait (n : Nat) (t : Nat) : Option Int := if t ≤ n then some 0 else none
theorem rep_wait {n : Nat} (h : n ≤ 398) (t : Nat) : eC (List.replicate (n + 1) (0 : Int) ++ [4611686018427387904]) 1 0 t = eWait n t := by
  obtain ⟨g, hi⟩ := rep_good (N := n + 1) (by omega) (by omega)
  have hl : (List.replicate (n + 1) (0 : Int) ++ [4611686018427387904]).length = n + 2 := by simp
  unfold eWait
  by_cases ht : t ≤ n
  · rw [if_pos ht]
    have e : atC (List.replicate (n + 1) (0 : Int) ++ [4611686018427387904]) 1 0 t = 0 := by rw [atC_lt (by omega), rep_getD, if_neg (by omega)]
    unfold eC
    rw [e, if_neg]
    rintro ⟨_, k⟩; unfold infV at k; omega
  · rw [if_neg ht]; exact eC_late g hi (by omega)
theorem wait_can {n : Nat} (h : n ≤ 398) : ECan (eWait n) := ⟨_, 1, 0, (rep_good (N := n + 1) (by omega) (by omega)).1, rep_wait h⟩
theorem wait_raw {n : Nat} (h : n ≤ 398) : RawE (List.replicate (n + 1) (0 : Int) ++ [infV]) 1 0 (eWait n) := by
  refine .inr ⟨by simp; omega, n + 1, by simp, by rw [rep_getD, if_pos rfl], fun j hj => ?_, fun t => ?_⟩
  · rw [rep_getD, if_neg (by omega)]; unfold infV; omega
  · unfold eWait
    by_cases h : t < n + 1
    · rw [if_pos h, if_pos (by omega), rep_getD, if_neg (by omega)]
    · rw [if_neg h, if_neg (by omega)]
theorem wait_day (n : Nat) : Day (eWait n) := day_none (s := n + 1) fun t ht => by unfold eWait; rw [if_neg (by omega)]

set_option maxRecDepth 100000 in
set_option maxHeartbeats 1600000 in
theorem rwait_any (ni : Int) (n : Nat) (hni : ni = n) (hn : n ≤ 300) (w : World) : Calls Try.prog 53 #[.int .i64 ni] w (GivesOk (eWait n) w) := by
  subst hni
  obtain ⟨i0, hi, hz0, hz1, hz2⟩ := info_parts info_int
  obtain ⟨N, hN⟩ : ∃ N, n + 1 = N := ⟨_, rfl⟩
  have hmk := make_rowD N (by omega)
  have hNi : (n : Int) + 1 = (N : Int) := by omega
  have hNw : IntKind.i64.wrap (N : Int) = (N : Int) := IntWalk.i64_in _ ⟨by omega, by omega⟩
  have t1 : ¬ (n : Int) < 0 := by omega
  have t2 : ¬ (400 : Int) ≤ (n : Int) := by omega
  have hHO : ((w.alloc (.cells #[.slice none 0 0, .int .i64 0, .int .i64 0] 24)).alloc (.cells (madeCells #[.int .i64 0] N) 3)).ownsRow (w.heap.size + 1) 3 1 (.slice (some ⟨w.heap.size + 1, 0, none⟩) N N) N (List.replicate N (Value.int .i64 0)) := by
    have := made_own (w.alloc (.cells #[.slice none 0 0, .int .i64 0, .int .i64 0] 24)) (w.heap.size + 1) N (by simp) (by omega)
    rwa [show (w.alloc (.cells #[.slice none 0 0, .int .i64 0, .int .i64 0] 24)).heap.size = w.heap.size + 1 by simp] at this
  obtain ⟨U, hU⟩ : ∃ U, (w.alloc (.cells #[.slice none 0 0, .int .i64 0, .int .i64 0] 24)).alloc (.cells (madeCells #[.int .i64 0] N) 3) = U := ⟨_, rfl⟩
  rw [hU] at hHO
  have HO := Lib.hid hHO
  have hUs : U.heap.size = w.heap.size + 2 := by rw [← hU]; simp
  have KR := Lib.hid (show Cur3 U w.heap.size (.slice none 0 0) (.int .i64 0) (.int .i64 0) by rw [← hU]; exact (Cur3.new w _ _ _ _).alloc _)
  have HB := Lib.hid (show Below w.heap.size w U by rw [← hU]; exact ((Below.refl _ _).alloc (Nat.le_refl _) _).alloc (by simp) _)
  have HUS := Lib.hid hUs
  clear hHO hUs
  go_enter Try.func53, Try.ntmps53
  go_upto_region 5 with fail
  go_wp2_with (at_builtin; (try rw [hU]); refine wpList_append_own _ rfl _ _ 22 rfl (w.heap.size + 1) 3 i0 (.int .i64 0) 1 8 Try.underlying22 hi hz0 hz1 hz2 rfl (by decide) _ _ _ rfl (HO.out.alloc _) ⟨U.heap.size, 0, none⟩ 1 1 [.int .i64 4611686018427387904] rfl rfl ?k1 ?k2 ?k3 ?k4 ?k5 ?_)
  case k2 => rfl
  case k3 => unfold maxLen; omega
  case k4 => omega
  case k5 => have := HUS.out; omega
  intro v' w6 hown' hgrow _
  obtain ⟨g6, cap6, rfl, hg6, hg6'⟩ := hown'.form (Nat.succ_pos _)
  have hrow : ∀ j, (Value.slice (some ⟨w.heap.size + 1, 0, none⟩) N N).ownBlock = some j → w.heap.size < j := fun j hj => by have e : w.heap.size + 1 = j := Option.some.inj hj; omega
  have KR6 := Lib.hid ((KR.out.alloc (.cells #[.int .i64 4611686018427387904] 3)).grown hgrow hrow)
  have HB6 := Lib.hid ((HB.out.alloc HB.out.size (.cells #[.int .i64 4611686018427387904] 3)).grown hgrow (Nat.le_trans HB.out.size (by simp)) (fun j hj => Nat.le_of_lt (hrow j hj)))
  have HO6 : Hid (w6.ownsRow (w.heap.size + 1) 3 1 (.slice (some ⟨g6, 0, none⟩) (N + 1) cap6) (N + 1) ((List.replicate N (0 : Int) ++ [infV]).map (Value.int .i64))) := Lib.hid (by rw [List.map_append, List.map_replicate]; exact hown')
  obtain ⟨a10, cap10, hv10, R10, X10⟩ := rowZ_of_owns HO6.out (by omega) (fun i hi => by
    rw [rep_getD]; split
    · exact ⟨by decide, by decide⟩
    · exact ⟨by decide, by decide⟩)
  obtain ⟨rfl, rfl⟩ : some ⟨g6, 0, none⟩ = a10 ∧ cap6 = cap10 := by cases hv10; exact ⟨rfl, rfl⟩
  have HR10 := Lib.hid R10
  have HRAW := Lib.hid (show RawE (List.replicate N (0 : Int) ++ [infV]) 1 0 (eWait n) by rw [← hN]; exact wait_raw (by omega))
  clear hown' hgrow hrow hv10 R10 X10 HO HO6 hmk
  go_wp2_with fail
  refine ((rmade_ok (some ⟨g6, 0, none⟩) (N + 1) cap6 _ 1 0 HRAW.out _ HR10.out).mono fun _ _ h => h.ok (wait_can (by omega))).mono ?_
  rintro e v ⟨a5, n5, cap5, zs5, p5, inc5, rfl, hb2, hr5, hf5, hx5⟩
  have HP := Lib.hid ((GivesE.post (b := w.heap.size) HB6.out (by omega) KR6.out.lt hb2 hr5 hx5 hf5).ok (wait_can (by omega)))
  obtain ⟨d0, d1, d2, e0, e1, e2⟩ := KR6.out.below hb2
  clear hb2 hr5 hf5 hx5
  go_wp2_with fail
  exact bodyPost_ret (v := .tuple #[curV a5 n5 cap5 p5 inc5, .int .i64 0]) (by simp [results, Try.results53, go_sem, d0, d1, d2]) rfl HP.out

end Go.Proofs.Ytcbocglakielnaa
