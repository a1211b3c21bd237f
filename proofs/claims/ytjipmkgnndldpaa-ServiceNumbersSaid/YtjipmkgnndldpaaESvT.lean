/- The document's Chain. By the verifier's side. -/
import Derived.Test.YtjipmkgnndldpaaESvD
import Derived.Test.YtjipmkgnndldpaaESvR
import Derived.Deep.RegionWith
namespace Go.Proofs.Ytjipmkgnndldpaa
open Go.RowKit
set_option linter.unusedSimpArgs false
set_option linter.unusedVariables false

theorem chainF_n {bs : List Bkt} {k : Nat} (h : (chainF bs k).c = 0) {b : Bkt} (hb : bs[k + 1]? = some b) {m n : Int} (hr : (if compareF b.bn b.bd (chainF bs k).rn (chainF bs k).rd < 0 then (b.bn, b.bd) else ((chainF bs k).rn, (chainF bs k).rd)) = (m, n)) {sn sd se : Int} (hs : addF (chainF bs k).ln (chainF bs k).ld b.rn b.rd = (sn, sd, se)) :
    chainF bs (k + 1) = if se = 0 then ⟨m, n, sn, sd, 0⟩ else ⟨0, 0, 0, 0, se⟩ := by
  rw [chainF_c0 h hb]
  unfold linkA
  dsimp only
  rw [hs]
  dsimp only
  by_cases h0 : se = 0
  · rw [if_pos h0, if_pos h0]
    by_cases hc : compareF b.bn b.bd (chainF bs k).rn (chainF bs k).rd < 0
    · rw [if_pos hc] at hr ⊢; cases hr; rfl
    · rw [if_neg hc] at hr ⊢; cases hr; rfl
  · rw [if_neg h0, if_neg h0]
theorem Pq4.put01 {w : World} {p : Nat} {x0 x1 x2 x3 : Int} (h : Pq4 w p x0 x1 x2 x3) (x y : Int) : Pq4 ((w.setCell ⟨p, 0, none⟩ (.int .i64 x)).setCell ⟨p, 1, none⟩ (.int .i64 y)) p x y x2 x3 := by
  obtain ⟨c0, c1, c2, c3, f0, f1, f2, f3⟩ := h
  exact ⟨by go_simp, by go_simp, by go_simp, by go_simp, by go_simp, by go_simp, by go_simp, by go_simp⟩
theorem Pq4.put23 {w : World} {p : Nat} {x0 x1 x2 x3 : Int} (h : Pq4 w p x0 x1 x2 x3) (x y : Int) : Pq4 ((w.setCell ⟨p, 2, none⟩ (.int .i64 x)).setCell ⟨p, 3, none⟩ (.int .i64 y)) p x0 x1 x y := by
  obtain ⟨c0, c1, c2, c3, f0, f1, f2, f3⟩ := h
  exact ⟨by go_simp, by go_simp, by go_simp, by go_simp, by go_simp, by go_simp, by go_simp, by go_simp⟩
section
variable {w u v : World} {B : Nat} {bs : List Bkt} {L : Nat} {x0 x1 x2 x3 : Int}
end

end Go.Proofs.Ytjipmkgnndldpaa
