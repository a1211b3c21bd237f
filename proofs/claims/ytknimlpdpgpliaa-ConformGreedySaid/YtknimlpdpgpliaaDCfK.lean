/- The mathematics of ConformGreedy. Nothing here speaks of the program. By the verifier's side. -/
import Derived.Test.YtknimlpdpgpliaaDCfGCfT
import Derived.Test.YtknimlpdpgpliaaDTrR
import Derived.Test.YtknimlpdpgpliaaDTrD
namespace Go.Proofs.Ytknimlpdpgpliaa
set_option linter.unusedSimpArgs false
set_option linter.unusedVariables false
/-- A packet of another size. -/
def szP (c : Int) (q : Pk) : Pk := ⟨q.f, q.t, c⟩
/-- The first k packets of another size. -/
def szK (c : Int) (l : List Pk) (k : Nat) : List Pk := (l.take k).map (szP c) ++ l.drop k
theorem szK_zero (c : Int) (l : List Pk) : szK c l 0 = l := by unfold szK; simp
theorem szK_all (c : Int) (l : List Pk) : szK c l l.length = l.map (szP c) := by unfold szK; rw [List.take_length, List.drop_length, List.append_nil]
theorem szK_at {c : Int} {l : List Pk} {k : Nat} {q : Pk} (h : l[k]? = some q) : (szK c l k)[k]? = some q := by
  have hk := (List.getElem?_eq_some_iff.1 h).1
  unfold szK
  rw [List.getElem?_append_right (by rw [List.length_map, List.length_take]; omega), List.length_map, List.length_take, Nat.min_eq_left (by omega), Nat.sub_self, List.getElem?_drop, Nat.add_zero, h]
theorem szK_step {c : Int} {l : List Pk} {k : Nat} {q : Pk} (h : l[k]? = some q) : (szK c l k).set k ⟨q.f, q.t, c⟩ = szK c l (k + 1) := by
  have hk := (List.getElem?_eq_some_iff.1 h).1
  unfold szK
  rw [List.set_append_right _ _ (by rw [List.length_map, List.length_take]; omega), List.length_map, List.length_take, Nat.min_eq_left (by omega), Nat.sub_self, drop_at h, List.take_add_one, h]
  simp [szP]
theorem bytT_cnt {c : Int} (t : Int) : ∀ l : List Pk, (∀ q ∈ l, q.s = c) → sumG (bytT t) l = (cnt t l : Int) * c
  | [], _ => by simp [sumG, cnt]
  | x :: r, h => by
    have ih := bytT_cnt t r (fun q hq => h q (by simp [hq]))
    show bytT t x + sumG (bytT t) r = _
    rw [ih]
    unfold bytT cnt
    rw [List.filter_cons]
    by_cases d : x.t < t
    · rw [if_pos d, if_pos (by simpa using d), List.length_cons, Int.natCast_add, Int.add_mul, h x (by simp)]
      simp; omega
    · rw [if_neg d, if_neg (by simpa using d)]; omega
theorem cnt_rev (t : Int) (l : List Pk) : cnt t l.reverse = cnt t l := by unfold cnt; rw [List.filter_reverse, List.length_reverse]
theorem sel_zero {l : List Pk} (h : ∀ q ∈ l, q.f = 0) : sel 0 l = l := List.filter_eq_self.2 (fun q hq => by unfold ofFlow; simp [h q hq])
/-- What is sent, in its order. -/
structure GrA (E : Nat → Int) (c : Int) (n : Nat) (G : List Pk) : Prop where
  val : vcode G = 0
  flow : ∀ q ∈ G, q.f = 0 ∧ q.s = c
  keeps : kpB E 0 G = true
theorem grA (E : Nat → Int) {c : Int} (hc : 1 ≤ c ∧ c ≤ 1500) {n : Nat} (hn : n ≤ 2001) : GrA E c n (gUp E 0 c n).reverse := by
  have hs := gUp_sent E 0 c n
  have hf : ∀ q ∈ (gUp E 0 c n).reverse, q.f = 0 ∧ q.s = c := fun q hq => by
    have := hs.mem q (List.mem_reverse.1 hq)
    exact ⟨this.1, this.2.1⟩
  refine ⟨vcode_of (by rw [List.length_reverse]; exact gUp_len E 0 c n) (fun q hq => ?_) ?_, hf, ?_⟩
  · have := hs.mem q (List.mem_reverse.1 hq)
    exact (okP_iff q).2 (by omega)
  · exact List.pairwise_reverse.2 hs.desc
  · unfold kpB
    rw [sel_zero (fun q hq => (hf q hq).1), List.reverse_reverse]
    exact gUp_fit E 0 c n
theorem wrap_small {x : Int} (h0 : 0 ≤ x) (h1 : x ≤ 1000000) : IntKind.i64.wrap x = x := IntWalk.i64_in _ ⟨by omega, by omega⟩
/-- No trace has more up to any tick. -/
theorem greedy_bytes {E : Nat → Int} (hE : ∀ i j, i ≤ j → E i ≤ E j) {c : Int} (hc : 1 ≤ c ∧ c ≤ 1500) {n : Nat} (hn : n ≤ 2001) (h60 : (gUp E 0 c n).length < 60) {q : List Pk} (hv : vcode q = 0) (hq : ∀ x ∈ q, x.f = 0 ∧ x.s = c) (hk : kpB E 0 q = true) (t : Nat) (ht : t ≤ n) :
    bytW t (sel 0 q) ≤ bytW t (sel 0 (gUp E 0 c n).reverse) := by
  have hg := grA E hc hn
  obtain ⟨v1, v2, v3⟩ := vcode_ok hv
  rw [sel_zero (fun x hx => (hq x hx).1), sel_zero (fun x hx => (hg.flow x hx).1)]
  have hm := greedy_most hE (fl := 0) (c := c) v3 (fun x hx => ⟨(hq x hx).2, by have := (okP_iff x).1 (v2 x hx); omega⟩) (by unfold kpB at hk; rwa [sel_zero (fun x hx => (hq x hx).1)] at hk) h60 t ht
  have hle1 := cnt_le (t : Int) q
  have hcg : cnt (t : Int) (gUp E 0 c n).reverse = (gUp E 0 c t).length := by rw [cnt_rev]; exact cnt_gUp E 0 c n t ht
  unfold bytW
  rw [bytT_cnt _ q (fun x hx => (hq x hx).2), bytT_cnt _ _ (fun x hx => (hg.flow x hx).2), hcg]
  have hl2 := gUp_len E 0 c t
  have m1 : (cnt (t : Int) q : Int) * c ≤ ((gUp E 0 c t).length : Int) * c := Int.mul_le_mul_of_nonneg_right (by omega) (by omega)
  have m2 : ((gUp E 0 c t).length : Int) * c ≤ 60 * 1500 := Int.mul_le_mul (by omega) hc.2 (by omega) (by omega)
  have m3 : 0 ≤ (cnt (t : Int) q : Int) * c := Int.mul_nonneg (by omega) (by omega)
  rw [wrap_small m3 (by omega), wrap_small (by omega) (by omega)]
  exact m1
theorem sized_val {N : Nat} {l : List Pk} {c : Int} (hc : 1 ≤ c ∧ c ≤ 1500) (hv : vcode l = 0) : vcode (l.map (szP c)) = 0 := by
  obtain ⟨h1, h2, h3⟩ := vcode_ok hv
  refine vcode_of (by rw [List.length_map]; exact h1) (fun q hq => ?_) ?_
  · obtain ⟨x, hx, rfl⟩ := List.mem_map.1 hq
    have := (okP_iff x).1 (h2 x hx)
    exact (okP_iff _).2 ⟨this.1, this.2.1, this.2.2.1, this.2.2.2.1, hc.1, hc.2⟩
  · exact List.pairwise_map.2 (h3.imp fun h => h)
end Go.Proofs.Ytknimlpdpgpliaa
