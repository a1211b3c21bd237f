/- The examples of the chapter (awake). By the verifier's side. -/
import Derived.Test.YtladmpoopfabdaaCurL
namespace Go.Proofs.Ytladmpoopfabdaa
open Go.RowKit
set_option linter.unusedSimpArgs false

theorem norm_line {x : Int} (h0 : 0 ≤ x) (h1 : x ≤ 1073741824) {zs' : List Int} {p' : Nat} {inc' : Int} (h : NormC (firsts (lineF x) 1) 1 x zs' p' inc') : zs' = [0] ∧ p' = 1 ∧ inc' = x := by
  have g := line_good x h0 h1
  have e : firsts (lineF x) 1 = [0] := by simp [firsts, lineF]
  rw [e] at h g
  have hf : ¬ ([0] : List Int).getD (([0] : List Int).length - 1) 0 = infV := by simp [infV]
  have hn : NormOf (atC [0] 1 x) 0 1 x := ⟨g.per hf, Nat.le_refl _, fun q h1 h2 => by omega, .inl rfl⟩
  rcases h with ⟨_, s, hn2, rfl, _, _⟩ | ⟨i, hi, he, _⟩
  · obtain ⟨rfl, rfl, rfl⟩ := hn.unique hn2
    exact ⟨rfl, rfl, rfl⟩
  · exact absurd (g.inf_iff.1 ⟨i, hi, he⟩) hf

theorem ex_good : Good [0, 3, 6] 2 6 := (okC_iff [0, 3, 6] 2 6).1 (by decide)
theorem ex_at : ∀ t, atC [0, 3, 6] 2 6 t = (fun t : Nat => 3 * (t : Int)) t := by
  have hp := ex_good.per (show ¬ ([0, 3, 6] : List Int).getD (([0, 3, 6] : List Int).length - 1) 0 = infV by decide)
  refine hp.ext (fun t _ => by show 3 * ((t + 2 : Nat) : Int) = 3 * (t : Int) + 6; omega) (by omega) fun t ht => ?_
  have ht3 : t < 3 := ht
  have : t = 0 ∨ t = 1 ∨ t = 2 := by omega
  rcases this with rfl | rfl | rfl <;> decide
theorem norm_ex {zs' : List Int} {p' : Nat} {inc' : Int} (h : NormC [0, 3, 6] 2 6 zs' p' inc') : zs' = [0] ∧ p' = 1 ∧ inc' = 3 := by
  have hf : ¬ ([0, 3, 6] : List Int).getD (([0, 3, 6] : List Int).length - 1) 0 = infV := by decide
  have hn : NormOf (atC [0, 3, 6] 2 6) 0 1 3 := ⟨fun t _ => by rw [ex_at, ex_at]; show 3 * ((t + 1 : Nat) : Int) = 3 * (t : Int) + 3; omega, Nat.le_refl _, fun q h1 h2 => by omega, .inl rfl⟩
  rcases h with ⟨_, s, hn2, rfl, _, _⟩ | ⟨i, hi, he, _⟩
  · obtain ⟨rfl, rfl, rfl⟩ := hn.unique hn2
    exact ⟨rfl, rfl, rfl⟩
  · exact absurd (ex_good.inf_iff.1 ⟨i, hi, he⟩) hf

theorem norm_wait {k : Nat} (h1 : k ≤ 398) {zs' : List Int} {p' : Nat} {inc' : Int} (h : NormC (firsts (waitF k) (k + 2)) 1 0 zs' p' inc') : zs' = firsts (waitF k) (k + 2) ∧ p' = 1 ∧ inc' = 0 := by
  have hl := firsts_length (waitF k) (k + 2)
  rcases h with ⟨hf, _⟩ | ⟨i, hi, he, hj, rfl, rfl, rfl⟩
  · exact absurd (by rw [hl, wait_getD _ _ (by omega), if_neg (by omega)]) hf
  · rw [hl] at hi
    rw [wait_getD _ _ hi] at he
    have hik : i = k + 1 := by
      by_cases hc : i ≤ k
      · rw [if_pos hc] at he; simp [infV] at he
      · omega
    subst hik
    exact ⟨List.take_of_length_le (by omega), rfl, rfl⟩

theorem rowZ_lit (w : World) (xs : List Int) (t : TypeId) (hx : ∀ z ∈ xs, In64 z) (hl : xs.length ≤ 1000) : RowZ (w.alloc (.cells (xs.map (Value.int .i64)).toArray t)) (some ⟨w.heap.size, 0, none⟩) xs.length xs.length xs := by
  refine ⟨rfl, Nat.le_refl _, by omega, by omega, fun i hi => ⟨_, rfl, ?_⟩, fun i hi => ?_⟩
  · have ea : ((⟨w.heap.size, 0, none⟩ : Addr).add i) = ⟨w.heap.size, i, none⟩ := by unfold Addr.add; split <;> simp_all
    rw [ea, World.cell?_alloc_new]
    simp [hi, List.getD]
  · have e : xs.getD i 0 = xs[i] := by simp [List.getD, List.getElem?_eq_getElem hi]
    rw [e]; exact hx _ (List.getElem_mem hi)

theorem zero_good : Good [0] 1 3 := (okC_iff [0] 1 3).1 (by decide)
theorem lt5' {a b : Nat} (h : a < b) : a < b + 1 ∧ ¬ a = b ∧ ¬ b = a ∧ a < b := ⟨by omega, by omega, by omega, h⟩

end Go.Proofs.Ytladmpoopfabdaa
