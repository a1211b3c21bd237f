/- The law of XRegI for whatever is laid into the frame. By the verifier's side. -/
import Derived.Test.YtjipmkgnndldpaaIRegI
namespace Go
section
variable {P : Program} {Q : Exit → Act → World → Prop} {β : Type}
/-- One operation, shown whatever has come up. -/
def StepJ (P : Program) (Q : Exit → Act → World → Prop) (fr : β → Act) (I : β → Array Bool → World → Prop) (i : Nat) (o : Oper) (ops : Array Oper) : Prop :=
  ∀ (listed : Array Bool) (b : β) (w : World), (∀ e ∈ o.after, Region.binds .any e = true → listed.getD e.on false = true) → I b listed w →
    ∀ K' : Act → World → Prop, Shut (∀ b' w, I b' (listed.setIfInBounds i true) w → K' (fr b') w) → if Region.wanted o (yielded ops (fr b).tmps) = true then Oper.wp P o (fr b) w K' Q else K' ((fr b).put o.dst undef) w
def StepsJ (P : Program) (Q : Exit → Act → World → Prop) (fr : β → Act) (I : β → Array Bool → World → Prop) (ops : Array Oper) (i : Nat) (l : List Oper) : Prop :=
  ∀ j o, l[j]? = some o → StepJ P Q fr I (i + j) o ops
section
variable {fr : β → Act} {I : β → Array Bool → World → Prop} {ops : Array Oper}
theorem StepsJ.nil {i : Nat} : StepsJ P Q fr I ops i [] := fun j o h => by simp at h
theorem StepsJ.cons {i j : Nat} {o : Oper} {os : List Oper} (hj : j = i + 1) (h : StepJ P Q fr I i o ops) (hs : StepsJ P Q fr I ops j os) : StepsJ P Q fr I ops i (o :: os) := fun q x hq => by
  cases q with
  | zero => cases hq; exact h
  | succ q =>
    have := hs q x (by simpa using hq)
    rwa [hj, show i + 1 + q = i + (q + 1) by omega] at this
end
theorem wp_region_fr {id : Nat} {l : List Oper} {a : Act} {w : World} (fr : β → Act) (I : β → Array Bool → World → Prop) (b0 : β) (hm : P.follows .mixedOrders = true) (hB : downB .any l.toArray = true)
    (ha : fr b0 = a) (h0 : I b0 (Array.replicate l.toArray.size false) w.drew)
    (hstep : StepsJ P Q fr I l.toArray 0 l)
    (hdone : ∀ (listed : Array Bool) (b : β) (w : World), (∀ j, j < l.toArray.size → listed.getD j false = true) → I b listed w → Q .normal (fr b) w) : (Code.region id l.toArray true).wp P Q a w :=
  wp_region_any hm (wpAny_inv (fun listed a' w => ∃ b, a' = fr b ∧ I b listed w) hB
    (fun i o ho listed a' w hall ⟨b, he, hI⟩ K' hK => by
      rw [he]
      have h1 := hstep i o (by simpa using ho)
      rw [Nat.zero_add] at h1
      exact h1 listed b w hall hI K' (fun b' w' hI' => hK _ w' ⟨b', rfl, hI'⟩))
    (fun listed a' w hA ⟨b, he, hI⟩ => by rw [he]; exact hdone listed b w hA hI)
    _ _ _ _ (by simp) (leftB_replicate _) ⟨b0, ha.symm, h0⟩)
/-- Values laid into the frame from number k on, and one at number j. -/
def putJ (a : Act) (j k : Nat) (b : Value × List Value) : Act := putL (a.put (some j) b.1) k b.2
theorem putJ_self (a : Act) (j k m : Nat) : putJ a j k (a.tmps.getD j undef, slots a k m) = a := by
  have h : a.put (some j) (a.tmps.getD j undef) = a := by
    obtain ⟨tmps, ds⟩ := a
    show ({ tmps := tmps.setIfInBounds j (tmps.getD j undef), defers := ds } : Act) = ⟨tmps, ds⟩
    congr 1
    apply Array.ext (by simp)
    intro i h1 h2
    rw [Array.getElem_setIfInBounds (by simpa using h2)]
    split
    · rename_i e; subst e; rw [Array.getD_eq_getD_getElem?, Array.getElem?_eq_getElem h2]; rfl
    · rfl
  show putL (a.put (some j) (a.tmps.getD j undef)) k (slots a k m) = a
  rw [h]; exact putL_slots a m k
end
end Go
