/- The law of XRegI within a round of a range over a function, for operations that call nothing; an operation may know that it has not come up. By the verifier's side. -/
import Derived.Test.YtenfhjmaljleoaaKRegI
import Derived.OrdersIn
import Derived.TacticsIn
import Derived.RangeFuncCalls
namespace Go
set_option linter.unusedSimpArgs false
set_option linter.unusedVariables false
/-- An operation that calls nothing and defers nothing. -/
def plainB (o : Oper) : Bool := match o.op with
  | .load .. | .store .. | .binOp .. | .fieldAddr .. | .indexAddr .. | .move .. | .assign .. => true
  | _ => false
theorem exec_plain {P : Program} {o : Oper} (hp : plainB o = true) (ρ : Operand → Value) (w : World) : ∀ x w', (execOp ρ o).run P w = .ok x w' → (∃ v, x = .value v) ∨ x = .skip := by
  have key : ∀ (s : Sem Value) x w', (do pure (Next.value (← s)) : Sem Next).run P w = .ok x w' → (∃ v, x = .value v) ∨ x = .skip := fun s x w' h => by
    simp only [Sem.run_bind, Sem.run_pure] at h
    cases hs : s.run P w with
    | ok v w1 => rw [hs] at h; simp only [Result.andThen_ok] at h; cases h; exact .inl ⟨_, rfl⟩
    | halt y w1 => rw [hs] at h; simp [Result.andThen] at h
  have key2 : ∀ (s : Sem Unit) x w', (do s; pure Next.skip : Sem Next).run P w = .ok x w' → (∃ v, x = .value v) ∨ x = .skip := fun s x w' h => by
    simp only [Sem.run_bind, Sem.run_pure] at h
    cases hs : s.run P w with
    | ok v w1 => rw [hs] at h; simp only [Result.andThen_ok] at h; cases h; exact .inr rfl
    | halt y w1 => rw [hs] at h; simp [Result.andThen] at h
  unfold plainB at hp
  unfold execOp
  cases ho : o.op <;> simp only [ho] at hp ⊢ <;> first | (exact absurd hp (by decide)) | skip
  all_goals first | exact key _ | exact key2 _ | (intro x w' h; simp only [Sem.run_pure] at h; cases h; exact .inl ⟨_, rfl⟩)
section
variable {F : Fence} {n l0 : Nat} {P : Program} {ops : Array Oper} {Q : Exit → Act → World → Prop} {md : Region.Mode}
theorem wpIn_plain {o : Oper} (hp : plainB o = true) {a : Act} {w : World} {K : Act → World → Prop} (h : Oper.wp P o a w K Q) : Oper.wpIn (F.inRound l0) n P o a w K Q := by
  unfold Oper.wpIn
  refine ⟨fun f hf => ?_, ?_⟩
  · unfold plainB at hp
    unfold Oper.about at hf
    cases ho : o.op <;> simp only [ho] at hp hf <;> first | cases hf | exact absurd hp (by decide)
  · have e : Oper.semAt (F.inRound l0).round a.eval o = execOp a.eval o := Oper.semAt_some l0 a.eval o (fun c hc => by unfold plainB at hp; rw [hc] at hp; exact Bool.false_ne_true hp)
    rw [e]
    unfold Oper.wp at h
    have hx := exec_plain (P := P) hp a.eval w
    generalize (execOp a.eval o).run P w = r at h hx
    cases r with
    | ok x w' =>
      rcases hx x w' rfl with ⟨v, rfl⟩ | rfl
      · exact h
      · exact h
    | halt y w' => cases y <;> simp only [Oper.upon, Oper.uponIn] at h ⊢ <;> exact h
theorem wpAnyIn_inv (I : Array Bool → Act → World → Prop) (hB : downB md ops = true) (hpl : ∀ (i : Nat) (o : Oper), ops[i]? = some o → plainB o = true ∧ o.guard = none)
    (hstep : ∀ (i : Nat) (o : Oper), ops[i]? = some o → ∀ (listed : Array Bool) (a : Act) (w : World), listed.getD i true = false → (∀ e ∈ o.after, Region.binds md e = true → listed.getD e.on false = true) → I listed a w →
      ∀ K' : Act → World → Prop, Shut (∀ a w, I (listed.setIfInBounds i true) a w → K' a w) → Oper.wp P o a w K' Q)
    (hdone : ∀ (listed : Array Bool) (a : Act) (w : World), (∀ j, j < ops.size → listed.getD j false = true) → I listed a w → Q .normal a w) :
    ∀ (fuel : Nat) (listed : Array Bool) (a : Act) (w : World), listed.size = ops.size → leftB listed = fuel → I listed a w → wpAnyIn (F.inRound l0) n P md ops Q fuel listed a w := by
  intro fuel
  induction fuel with
  | zero => intro listed a w hs h hI; exact ⟨ready_zero h, hdone listed a w (all_listed hB hs (ready_zero h)) hI⟩
  | succ fuel ih =>
    intro listed a w hz h hI
    refine ⟨fun hr => hdone listed a w (all_listed hB hz hr) hI, fun i hi => ?_⟩
    obtain ⟨h1, o, ho, h2⟩ := mem_ready.1 hi
    have hs := leftB_set h1
    have hw : Region.wanted o (yielded ops a.tmps) = true := by unfold Region.wanted; rw [(hpl i o ho).2]
    unfold wpOpIn
    simp only [ho, hw, if_true]
    exact wpIn_plain (hpl i o ho).1 (hstep i o ho listed a w h1 h2 hI _ (show Shut _ from fun a w hI => ih _ a w (by simpa using hz) (by omega) hI))
/-- One operation, shown whatever has come up. -/
def StepN (P : Program) (Q : Exit → Act → World → Prop) (a : Act) (k : Nat) (I : List Value → Array Bool → World → Prop) (i : Nat) (o : Oper) (ops : Array Oper) : Prop :=
  ∀ (listed : Array Bool) (ts : List Value) (w : World), listed.getD i true = false → (∀ e ∈ o.after, Region.binds .any e = true → listed.getD e.on false = true) → I ts listed w →
    ∀ K' : Act → World → Prop, Shut (∀ ts' w, I ts' (listed.setIfInBounds i true) w → K' (putL a k ts') w) → Oper.wp P o (putL a k ts) w K' Q
def StepsN (P : Program) (Q : Exit → Act → World → Prop) (a : Act) (k : Nat) (I : List Value → Array Bool → World → Prop) (ops : Array Oper) (i : Nat) (l : List Oper) : Prop :=
  ∀ j o, l[j]? = some o → StepN P Q a k I (i + j) o ops
theorem StepsN.nil {a : Act} {k : Nat} {I : List Value → Array Bool → World → Prop} {i : Nat} : StepsN P Q a k I ops i [] := fun j o h => by simp at h
theorem StepsN.cons {a : Act} {k : Nat} {I : List Value → Array Bool → World → Prop} {i j : Nat} {o : Oper} {os : List Oper} (hj : j = i + 1) (h : StepN P Q a k I i o ops) (hs : StepsN P Q a k I ops j os) : StepsN P Q a k I ops i (o :: os) := fun q x hq => by
  cases q with
  | zero => cases hq; exact h
  | succ q =>
    have := hs q x (by simpa using hq)
    rwa [hj, show i + 1 + q = i + (q + 1) by omega] at this
theorem wpIn_region_inv {id : Nat} {l : List Oper} {a : Act} {w : World} (k m : Nat) (I : List Value → Array Bool → World → Prop) (hm : P.follows .mixedOrders = true) (hB : downB .any l.toArray = true)
    (hpl : (l.all fun o => plainB o && o.guard.isNone) = true)
    (h0 : I (slots a k m) (Array.replicate l.toArray.size false) w.drew)
    (hstep : StepsN P Q a k I l.toArray 0 l)
    (hdone : ∀ (listed : Array Bool) (ts : List Value) (w : World), (∀ j, j < l.toArray.size → listed.getD j false = true) → I ts listed w → Q .normal (putL a k ts) w) : (Code.region id l.toArray true).wpIn (F.inRound l0) n P Q a w :=
  wpIn_region_any hm (wpAnyIn_inv (fun listed a' w => ∃ ts, a' = putL a k ts ∧ I ts listed w) hB
    (fun i o ho => by
      have := List.all_eq_true.1 hpl o (List.mem_of_getElem? (by simpa using ho))
      rw [Bool.and_eq_true, Option.isNone_iff_eq_none] at this
      exact this)
    (fun i o ho listed a' w hi hall ⟨ts, he, hI⟩ K' hK => by
      rw [he]
      have h1 := hstep i o (by simpa using ho)
      rw [Nat.zero_add] at h1
      exact h1 listed ts w hi hall hI K' (fun ts' w' hI' => hK _ w' ⟨ts', rfl, hI'⟩))
    (fun listed a' w hA ⟨ts, he, hI⟩ => by rw [he]; exact hdone listed ts w hA hI)
    _ _ _ _ (by simp) (leftB_replicate _) ⟨_, (putL_slots a m k).symm, h0⟩)
end
end Go
