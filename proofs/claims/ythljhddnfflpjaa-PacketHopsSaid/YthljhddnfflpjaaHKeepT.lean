/- Two laws more for regions that draw their order: two or three operations may come up; each of them is shown. By the verifier's side. -/
import Derived.Test.YthljhddnfflpjaaHBaseApartPickKeepS
namespace Go
section
variable {P : Program} {ops : Array Oper} {Q : Exit → Act → World → Prop} {md : Region.Mode} {S : World → Prop} {n g : Nat} {T : Act → World → Prop}

theorem wpAnyK_two {i j : Nat} {oi oj : Oper} {fuel : Nat} {listed : Array Bool} {a : Act} {w : World} (hi : ops[i]? = some oi) (hj : ops[j]? = some oj) (hr : (decide (Region.ready md ops listed = [i, j]) && decide (i < n) && decide (j < n)) = true)
    (h1 : ∀ K' : Act → World → Prop, Shut (∀ a w, S w → (S w → wpAnyK P md ops Q S n g T fuel (listed.setIfInBounds i true) a w) → K' a w) → if Region.wanted oi (yielded ops a.tmps) = true then Oper.wp P oi a w K' Q else K' (a.put oi.dst undef) w)
    (h2 : ∀ K' : Act → World → Prop, Shut (∀ a w, S w → (S w → wpAnyK P md ops Q S n g T fuel (listed.setIfInBounds j true) a w) → K' a w) → if Region.wanted oj (yielded ops a.tmps) = true then Oper.wp P oj a w K' Q else K' (a.put oj.dst undef) w) :
    wpAnyK P md ops Q S n g T (fuel + 1) listed a w := by
  simp only [Bool.and_eq_true, decide_eq_true_eq] at hr
  obtain ⟨⟨hl, hin⟩, hjn⟩ := hr
  refine ⟨fun h0 => (by rw [hl] at h0; cases h0), fun k hk => ?_⟩
  rw [hl] at hk
  rcases List.mem_cons.1 hk with rfl | hk
  · exact ⟨hin, wpOp_step hi (fun K' hK => h1 K' (fun a w hS hW => hK a w ⟨hS, hW hS⟩))⟩
  · obtain rfl : k = j := by simpa using hk
    exact ⟨hjn, wpOp_step hj (fun K' hK => h2 K' (fun a w hS hW => hK a w ⟨hS, hW hS⟩))⟩

end
end Go
