/- What the walks of stage 16 share. By the verifier's side. -/
import Derived.Test.YtkienpbmoilheaaDLnKLnL
import Derived.Test.YtkienpbmoilheaaDLnMLnS
import Derived.Test.YtkienpbmoilheaaDCfUCfZ
import Derived.Test.YtkienpbmoilheaaDRTrB
namespace Go.Proofs.Ytkienpbmoilheaa
open Go.RowKit
set_option linter.unusedSimpArgs false
set_option linter.unusedVariables false

theorem ln_ok' {lp : List Pk} (hv : vcode lp = 0) (hf : ∀ i, i < lp.length → (lp.getD i default).f < 3) {C : Int} (h1 : 1 ≤ C) (h2 : C ≤ 4000) {T : Int} (h3 : 0 ≤ T) (h4 : T ≤ 2000) : lnCode C 3 T lp = 0 := by
  unfold lnCode
  rw [if_pos hv, if_neg]
  rintro (h | h | h | h | h | h | ⟨i, hi, h⟩)
  all_goals first | omega | skip
  have := hf i hi
  omega
theorem drw_fl {lp : List Pk} {N : Nat} {M : Int} (hD : DrwF N 3 M lp) : ∀ i, i < lp.length → (lp.getD i default).f < 3 := fun i hi => by
  have := hD.ok (lp.getD i default) (by rw [List.getD_eq_getElem?_getD, List.getElem?_eq_getElem hi]; exact List.getElem_mem _)
  omega
theorem run_boxes {w : World} {B1 B2 : Nat} {x1 y1 x2 y2 : Value} (h : TwoR w B1 x1 y1 ∧ TwoR w B2 x2 y2) {v : World} (hb : Below w.heap.size w v) : v.cell? ⟨B1, 0, none⟩ = some x1 ∧ v.cell? ⟨B1, 1, none⟩ = some y1 ∧ v.cell? ⟨B2, 0, none⟩ = some x2 ∧ v.cell? ⟨B2, 1, none⟩ = some y2 := by
  obtain ⟨a, b⟩ := (h.1.under hb).cells
  obtain ⟨c, d⟩ := (h.2.under hb).cells
  exact ⟨a, b, c, d⟩
theorem RowZ.take16 {w : World} {B o n cap : Nat} {zs : List Int} (h : RowZ w (some ⟨B, o, none⟩) n cap zs) {d : Nat} (hd : d ≤ n) : RowZ w (some ⟨B, o, none⟩) d cap (zs.take d) := by
  have h1 := h.len
  have h2 := h.le
  have h3 := h.sm
  have h4 := h.cm
  have hg : ∀ i, i < d → (zs.take d).getD i 0 = zs.getD i 0 := fun i hi => by rw [List.getD_eq_getElem?_getD, List.getD_eq_getElem?_getD, List.getElem?_take, if_pos hi]
  exact ⟨by rw [List.length_take]; omega, by omega, by omega, by omega, fun i hi => by rw [hg i hi]; exact h.cell i (by omega), fun i hi => by rw [hg i hi]; exact h.bd _ (by omega)⟩
theorem valsF_take (F G : Nat → Int) {N n : Nat} (hN : n ≤ N) (h : ∀ k, k < n → F k = G k) : (valsF F N).take n = valsF G n := by
  refine List.ext_getElem? fun i => ?_
  rw [List.getElem?_take]
  unfold valsF
  rw [List.getElem?_map, List.getElem?_map]
  by_cases c : i < n
  · rw [if_pos c, List.getElem?_range (by omega), List.getElem?_range c]
    show some (F i) = some (G i)
    rw [h i c]
  · rw [if_neg c, List.getElem?_eq_none (by simp; omega)]; rfl
theorem early_snoc {n : Int} {lp : List Pk} {k : Nat} {q : Pk} (h : lp[k]? = some q) : earlyP n (lp.take (k + 1)) = if q.t < n then earlyP n (lp.take k) ++ [q] else earlyP n (lp.take k) := by
  unfold earlyP
  rw [List.take_add_one, h, List.filter_append]
  by_cases c : q.t < n
  · rw [if_pos c]; simp [c]
  · rw [if_neg c]; simp [c]
theorem early_len (n : Int) (lp : List Pk) (k : Nat) : (earlyP n (lp.take k)).length ≤ k := Nat.le_trans (List.length_filter_le _ _) (by rw [List.length_take]; omega)
end Go.Proofs.Ytkienpbmoilheaa
