/- The law of XRegI within a round of a range over a function, for whatever operations without guards; each is shown as the round has it. By the verifier's side. -/
import Derived.Test.YtknimlpdpgpliaaCRegN
namespace Go
set_option linter.unusedSimpArgs false
set_option linter.unusedVariables false
section
variable {F : Fence} {n l0 : Nat} {P : Program} {ops : Array Oper} {Q : Exit → Act → World → Prop} {md : Region.Mode}
theorem wpAnyIn_invW (I : Array Bool → Act → World → Prop) (hB : downB md ops = true) (hpl : ∀ (i : Nat) (o : Oper), ops[i]? = some o → o.guard = none)
    (hstep : ∀ (i : Nat) (o : Oper), ops[i]? = some o → ∀ (listed : Array Bool) (a : Act) (w : World), listed.getD i true = false → (∀ e ∈ o.after, Region.binds md e = true → listed.getD e.on false = true) → I listed a w →
      ∀ K' : Act → World → Prop, Shut (∀ a w, I (listed.setIfInBounds i true) a w → K' a w) → Oper.wpIn (F.inRound l0) n P o a w K' Q)
    (hdone : ∀ (listed : Array Bool) (a : Act) (w : World), (∀ j, j < ops.size → listed.getD j false = true) → I listed a w → Q .normal a w) :
    ∀ (fuel : Nat) (listed : Array Bool) (a : Act) (w : World), listed.size = ops.size → leftB listed = fuel → I listed a w → wpAnyIn (F.inRound l0) n P md ops Q fuel listed a w := by
  intro fuel
  induction fuel with
  | zero => intro listed a w hs h hI; exact ⟨ready_zero h, hdone listed a w (all_listed hB hs (ready_zero h)) hI⟩
  | succ fuel ih =>
    intro listed a w hz h hI
    refine ⟨fun hr => hdone listed a w (all_listed hB hz hr) hI, fun i hi => ?_⟩
    obtain ⟨h1, o, ho, h2⟩ := mem_ready.1 hi
    have hs := leftB_set h1
    have hw : Region.wanted o (yielded ops a.tmps) = true := by unfold Region.wanted; rw [hpl i o ho]
    unfold wpOpIn
    simp only [ho, hw, if_true]
    exact hstep i o ho listed a w h1 h2 hI _ (show Shut _ from fun a w hI => ih _ a w (by simpa using hz) (by omega) hI)
/-- One operation, shown whatever has come up. -/
def StepW (F : Fence) (l0 n : Nat) (P : Program) (Q : Exit → Act → World → Prop) (a : Act) (k : Nat) (I : List Value → Array Bool → World → Prop) (i : Nat) (o : Oper) (ops : Array Oper) : Prop :=
  ∀ (listed : Array Bool) (ts : List Value) (w : World), listed.getD i true = false → (∀ e ∈ o.after, Region.binds .any e = true → listed.getD e.on false = true) → I ts listed w →
    ∀ K' : Act → World → Prop, Shut (∀ ts' w, I ts' (listed.setIfInBounds i true) w → K' (putL a k ts') w) → Oper.wpIn (F.inRound l0) n P o (putL a k ts) w K' Q
def StepsW (F : Fence) (l0 n : Nat) (P : Program) (Q : Exit → Act → World → Prop) (a : Act) (k : Nat) (I : List Value → Array Bool → World → Prop) (ops : Array Oper) (i : Nat) (l : List Oper) : Prop :=
  ∀ j o, l[j]? = some o → StepW F l0 n P Q a k I (i + j) o ops
theorem StepsW.nil {a : Act} {k : Nat} {I : List Value → Array Bool → World → Prop} {i : Nat} : StepsW F l0 n P Q a k I ops i [] := fun j o h => by simp at h
theorem StepsW.cons {a : Act} {k : Nat} {I : List Value → Array Bool → World → Prop} {i j : Nat} {o : Oper} {os : List Oper} (hj : j = i + 1) (h : StepW F l0 n P Q a k I i o ops) (hs : StepsW F l0 n P Q a k I ops j os) : StepsW F l0 n P Q a k I ops i (o :: os) := fun q x hq => by
  cases q with
  | zero => cases hq; exact h
  | succ q =>
    have := hs q x (by simpa using hq)
    rwa [hj, show i + 1 + q = i + (q + 1) by omega] at this
theorem wpIn_region_invW {id : Nat} {l : List Oper} {a : Act} {w : World} (k m : Nat) (I : List Value → Array Bool → World → Prop) (hm : P.follows .mixedOrders = true) (hB : downB .any l.toArray = true)
    (hpl : (l.all fun o => o.guard.isNone) = true)
    (h0 : I (slots a k m) (Array.replicate l.toArray.size false) w.drew)
    (hstep : StepsW F l0 n P Q a k I l.toArray 0 l)
    (hdone : ∀ (listed : Array Bool) (ts : List Value) (w : World), (∀ j, j < l.toArray.size → listed.getD j false = true) → I ts listed w → Q .normal (putL a k ts) w) : (Code.region id l.toArray true).wpIn (F.inRound l0) n P Q a w :=
  wpIn_region_any hm (wpAnyIn_invW (fun listed a' w => ∃ ts, a' = putL a k ts ∧ I ts listed w) hB
    (fun i o ho => by
      have := List.all_eq_true.1 hpl o (List.mem_of_getElem? (by simpa using ho))
      rw [Option.isNone_iff_eq_none] at this
      exact this)
    (fun i o ho listed a' w hi hall ⟨ts, he, hI⟩ K' hK => by
      rw [he]
      have h1 := hstep i o (by simpa using ho)
      rw [Nat.zero_add] at h1
      exact h1 listed ts w hi hall hI K' (fun ts' w' hI' => hK _ w' ⟨ts', rfl, hI'⟩))
    (fun listed a' w hA ⟨ts, he, hI⟩ => by rw [he]; exact hdone listed ts w hA hI)
    _ _ _ _ (by simp) (leftB_replicate _) ⟨_, (putL_slots a m k).symm, h0⟩)
end
end Go
