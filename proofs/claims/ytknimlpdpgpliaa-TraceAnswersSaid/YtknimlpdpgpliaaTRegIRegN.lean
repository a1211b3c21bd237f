/- A law: a region that draws its order, under an invariant that speaks of the operations that have come up. By the verifier's side. -/
import Derived.Deep.RegionHeld3
import Derived.OrdersIn
import Derived.TacticsIn
import Derived.RangeFuncCalls
namespace Go
section
variable {P : Program} {ops : Array Oper} {Q : Exit → Act → World → Prop} {md : Region.Mode}

theorem getDf_ne {l : Array Bool} {i j : Nat} (h : i ≠ j) : (l.setIfInBounds i true).getD j false = l.getD j false := by
  rw [Array.getD_eq_getD_getElem?, Array.getD_eq_getD_getElem?, Array.getElem?_setIfInBounds_ne h]
/-- How many operations have not come up. -/
def leftB (l : Array Bool) : Nat := l.toList.count false
theorem leftB_set {l : Array Bool} {i : Nat} (h : l.getD i true = false) : leftB l = leftB (l.setIfInBounds i true) + 1 := by
  have hi : i < l.toList.length := by
    by_cases hi : i < l.size
    · simpa using hi
    · rw [Array.getD_eq_getD_getElem?, Array.getElem?_eq_none (by omega)] at h; cases h
  have hv : l.toList[i] = false := by
    rw [Array.getD_eq_getD_getElem?, Array.getElem?_eq_getElem (by simpa using hi)] at h
    simpa using h
  unfold leftB
  have h9 : 0 < l.toList.count false := List.count_pos_iff.2 (by rw [← hv]; exact List.getElem_mem hi)
  rw [Array.toList_setIfInBounds, List.count_set hi, hv]
  generalize l.toList.count false = c at h9
  simp
  omega
theorem leftB_zero {l : Array Bool} (h : leftB l = 0) (i : Nat) : l.getD i true = true := by
  rw [Array.getD_eq_getD_getElem?]
  by_cases hi : i < l.size
  · rw [Array.getElem?_eq_getElem hi]
    show l[i] = true
    unfold leftB at h
    rw [List.count_eq_zero] at h
    cases hb : l[i] with
    | true => rfl
    | false => exact absurd (by rw [← hb]; exact Array.mem_toList_iff.2 (Array.getElem_mem hi)) h
  · rw [Array.getElem?_eq_none (by omega)]; rfl
theorem leftB_replicate : ∀ n : Nat, leftB (Array.replicate n false) = n := fun n => by unfold leftB; simp
theorem ready_zero {l : Array Bool} (h : leftB l = 0) : Region.ready md ops l = [] := by
  cases hr : Region.ready md ops l with
  | nil => rfl
  | cons x xs =>
    have hx : x ∈ Region.ready md ops l := by rw [hr]; exact List.mem_cons_self
    have h1 := (mem_ready.1 hx).1
    rw [leftB_zero h x] at h1
    cases h1

/-- Each operation waits for earlier ones only. -/
def downB (md : Region.Mode) (ops : Array Oper) : Bool :=
  (List.range ops.size).all fun j => match ops[j]? with
    | some o => o.after.all fun e => !Region.binds md e || decide (e.on < j)
    | none => true
theorem downB_spec (h : downB md ops = true) {j : Nat} {o : Oper} (ho : ops[j]? = some o) : ∀ e ∈ o.after, Region.binds md e = true → e.on < j := fun e he hb => by
  unfold downB at h
  rw [List.all_eq_true] at h
  have h1 := h j (List.mem_range.2 (Array.getElem?_eq_some_iff.1 ho).1)
  simp only [ho] at h1
  have h2 := Array.all_eq_true_iff_forall_mem.1 h1 e he
  simpa [hb] using h2
theorem all_listed (hB : downB md ops = true) {listed : Array Bool} (hs : listed.size = ops.size) (h : Region.ready md ops listed = []) : ∀ j, j < ops.size → listed.getD j false = true := by
  intro j
  induction j using Nat.strongRecOn with
  | ind j ih =>
    intro hj
    cases hd : listed.getD j false with
    | true => rfl
    | false =>
      have h1 : listed.getD j true = false := by
        rw [Array.getD_eq_getD_getElem?, Array.getElem?_eq_getElem (by omega)] at hd ⊢
        exact hd
      have hm : j ∈ Region.ready md ops listed := mem_ready.2 ⟨h1, ops[j], Array.getElem?_eq_getElem hj, fun e he hb => by
        have hl := downB_spec hB (Array.getElem?_eq_getElem hj) e he hb
        exact ih e.on hl (by omega)⟩
      rw [h] at hm
      cases hm
/-- Values laid into the frame, from number k on. -/
def putL (a : Act) : Nat → List Value → Act
  | _, [] => a
  | k, v :: vs => putL (a.put (some k) v) (k + 1) vs
theorem keepV {listed : Array Bool} {i j : Nat} {V : Prop} (h : listed.getD j false = true → V) (hne : i ≠ j) : (listed.setIfInBounds i true).getD j false = true → V := fun hd => h (by rwa [getDf_ne hne] at hd)
/-- The frame's values from number k on. -/
def slots (a : Act) : Nat → Nat → List Value
  | _, 0 => []
  | k, m + 1 => a.tmps.getD k undef :: slots a (k + 1) m
theorem putL_slots (a : Act) : ∀ m k, putL a k (slots a k m) = a
  | 0, _ => rfl
  | m + 1, k => by
    have h : a.put (some k) (a.tmps.getD k undef) = a := by
      obtain ⟨tmps, ds⟩ := a
      show ({ tmps := tmps.setIfInBounds k (tmps.getD k undef), defers := ds } : Act) = ⟨tmps, ds⟩
      congr 1
      apply Array.ext (by simp)
      intro j h1 h2
      rw [Array.getElem_setIfInBounds (by simpa using h2)]
      split
      · rename_i e; subst e; rw [Array.getD_eq_getD_getElem?, Array.getElem?_eq_getElem h2]; rfl
      · rfl
    show putL (a.put (some k) (a.tmps.getD k undef)) (k + 1) (slots a (k + 1) m) = a
    rw [h]; exact putL_slots a m (k + 1)
section
variable {a : Act} {k : Nat} {I : List Value → Array Bool → World → Prop}
end
end
end Go

namespace Go
set_option linter.unusedSimpArgs false
set_option linter.unusedVariables false
/-- An operation that calls nothing and defers nothing. -/
def plainB (o : Oper) : Bool := match o.op with
  | .load .. | .store .. | .binOp .. | .fieldAddr .. | .indexAddr .. | .move .. | .assign .. => true
  | _ => false
theorem exec_plain {P : Program} {o : Oper} (hp : plainB o = true) (ρ : Operand → Value) (w : World) : ∀ x w', (execOp ρ o).run P w = .ok x w' → (∃ v, x = .value v) ∨ x = .skip := by
  have key : ∀ (s : Sem Value) x w', (do pure (Next.value (← s)) : Sem Next).run P w = .ok x w' → (∃ v, x = .value v) ∨ x = .skip := fun s x w' h => by
    simp only [Sem.run_bind, Sem.run_pure] at h
    cases hs : s.run P w with
    | ok v w1 => rw [hs] at h; simp only [Result.andThen_ok] at h; cases h; exact .inl ⟨_, rfl⟩
    | halt y w1 => rw [hs] at h; simp [Result.andThen] at h
  have key2 : ∀ (s : Sem Unit) x w', (do s; pure Next.skip : Sem Next).run P w = .ok x w' → (∃ v, x = .value v) ∨ x = .skip := fun s x w' h => by
    simp only [Sem.run_bind, Sem.run_pure] at h
    cases hs : s.run P w with
    | ok v w1 => rw [hs] at h; simp only [Result.andThen_ok] at h; cases h; exact .inr rfl
    | halt y w1 => rw [hs] at h; simp [Result.andThen] at h
  unfold plainB at hp
  unfold execOp
  cases ho : o.op <;> simp only [ho] at hp ⊢ <;> first | (exact absurd hp (by decide)) | skip
  all_goals first | exact key _ | exact key2 _ | (intro x w' h; simp only [Sem.run_pure] at h; cases h; exact .inl ⟨_, rfl⟩)
section
variable {F : Fence} {n l0 : Nat} {P : Program} {ops : Array Oper} {Q : Exit → Act → World → Prop} {md : Region.Mode}
theorem wpIn_plain {o : Oper} (hp : plainB o = true) {a : Act} {w : World} {K : Act → World → Prop} (h : Oper.wp P o a w K Q) : Oper.wpIn (F.inRound l0) n P o a w K Q := by
  unfold Oper.wpIn
  refine ⟨fun f hf => ?_, ?_⟩
  · unfold plainB at hp
    unfold Oper.about at hf
    cases ho : o.op <;> simp only [ho] at hp hf <;> first | cases hf | exact absurd hp (by decide)
  · have e : Oper.semAt (F.inRound l0).round a.eval o = execOp a.eval o := Oper.semAt_some l0 a.eval o (fun c hc => by unfold plainB at hp; rw [hc] at hp; exact Bool.false_ne_true hp)
    rw [e]
    unfold Oper.wp at h
    have hx := exec_plain (P := P) hp a.eval w
    generalize (execOp a.eval o).run P w = r at h hx
    cases r with
    | ok x w' =>
      rcases hx x w' rfl with ⟨v, rfl⟩ | rfl
      · exact h
      · exact h
    | halt y w' => cases y <;> simp only [Oper.upon, Oper.uponIn] at h ⊢ <;> exact h
theorem wpAnyIn_inv (I : Array Bool → Act → World → Prop) (hB : downB md ops = true) (hpl : ∀ (i : Nat) (o : Oper), ops[i]? = some o → plainB o = true ∧ o.guard = none)
    (hstep : ∀ (i : Nat) (o : Oper), ops[i]? = some o → ∀ (listed : Array Bool) (a : Act) (w : World), listed.getD i true = false → (∀ e ∈ o.after, Region.binds md e = true → listed.getD e.on false = true) → I listed a w →
      ∀ K' : Act → World → Prop, Shut (∀ a w, I (listed.setIfInBounds i true) a w → K' a w) → Oper.wp P o a w K' Q)
    (hdone : ∀ (listed : Array Bool) (a : Act) (w : World), (∀ j, j < ops.size → listed.getD j false = true) → I listed a w → Q .normal a w) :
    ∀ (fuel : Nat) (listed : Array Bool) (a : Act) (w : World), listed.size = ops.size → leftB listed = fuel → I listed a w → wpAnyIn (F.inRound l0) n P md ops Q fuel listed a w := by
  intro fuel
  induction fuel with
  | zero => intro listed a w hs h hI; exact ⟨ready_zero h, hdone listed a w (all_listed hB hs (ready_zero h)) hI⟩
  | succ fuel ih =>
    intro listed a w hz h hI
    refine ⟨fun hr => hdone listed a w (all_listed hB hz hr) hI, fun i hi => ?_⟩
    obtain ⟨h1, o, ho, h2⟩ := mem_ready.1 hi
    have hs := leftB_set h1
    have hw : Region.wanted o (yielded ops a.tmps) = true := by unfold Region.wanted; rw [(hpl i o ho).2]
    unfold wpOpIn
    simp only [ho, hw, if_true]
    exact wpIn_plain (hpl i o ho).1 (hstep i o ho listed a w h1 h2 hI _ (show Shut _ from fun a w hI => ih _ a w (by simpa using hz) (by omega) hI))
/-- One operation, shown whatever has come up. -/
def StepN (P : Program) (Q : Exit → Act → World → Prop) (a : Act) (k : Nat) (I : List Value → Array Bool → World → Prop) (i : Nat) (o : Oper) (ops : Array Oper) : Prop :=
  ∀ (listed : Array Bool) (ts : List Value) (w : World), listed.getD i true = false → (∀ e ∈ o.after, Region.binds .any e = true → listed.getD e.on false = true) → I ts listed w →
    ∀ K' : Act → World → Prop, Shut (∀ ts' w, I ts' (listed.setIfInBounds i true) w → K' (putL a k ts') w) → Oper.wp P o (putL a k ts) w K' Q
def StepsN (P : Program) (Q : Exit → Act → World → Prop) (a : Act) (k : Nat) (I : List Value → Array Bool → World → Prop) (ops : Array Oper) (i : Nat) (l : List Oper) : Prop :=
  ∀ j o, l[j]? = some o → StepN P Q a k I (i + j) o ops
theorem StepsN.nil {a : Act} {k : Nat} {I : List Value → Array Bool → World → Prop} {i : Nat} : StepsN P Q a k I ops i [] := fun j o h => by simp at h
theorem StepsN.cons {a : Act} {k : Nat} {I : List Value → Array Bool → World → Prop} {i j : Nat} {o : Oper} {os : List Oper} (hj : j = i + 1) (h : StepN P Q a k I i o ops) (hs : StepsN P Q a k I ops j os) : StepsN P Q a k I ops i (o :: os) := fun q x hq => by
  cases q with
  | zero => cases hq; exact h
  | succ q =>
    have := hs q x (by simpa using hq)
    rwa [hj, show i + 1 + q = i + (q + 1) by omega] at this
theorem wpIn_region_inv {id : Nat} {l : List Oper} {a : Act} {w : World} (k m : Nat) (I : List Value → Array Bool → World → Prop) (hm : P.follows .mixedOrders = true) (hB : downB .any l.toArray = true)
    (hpl : (l.all fun o => plainB o && o.guard.isNone) = true)
    (h0 : I (slots a k m) (Array.replicate l.toArray.size false) w.drew)
    (hstep : StepsN P Q a k I l.toArray 0 l)
    (hdone : ∀ (listed : Array Bool) (ts : List Value) (w : World), (∀ j, j < l.toArray.size → listed.getD j false = true) → I ts listed w → Q .normal (putL a k ts) w) : (Code.region id l.toArray true).wpIn (F.inRound l0) n P Q a w :=
  wpIn_region_any hm (wpAnyIn_inv (fun listed a' w => ∃ ts, a' = putL a k ts ∧ I ts listed w) hB
    (fun i o ho => by
      have := List.all_eq_true.1 hpl o (List.mem_of_getElem? (by simpa using ho))
      rw [Bool.and_eq_true, Option.isNone_iff_eq_none] at this
      exact this)
    (fun i o ho listed a' w hi hall ⟨ts, he, hI⟩ K' hK => by
      rw [he]
      have h1 := hstep i o (by simpa using ho)
      rw [Nat.zero_add] at h1
      exact h1 listed ts w hi hall hI K' (fun ts' w' hI' => hK _ w' ⟨ts', rfl, hI'⟩))
    (fun listed a' w hA ⟨ts, he, hI⟩ => by rw [he]; exact hdone listed ts w hA hI)
    _ _ _ _ (by simp) (leftB_replicate _) ⟨_, (putL_slots a m k).symm, h0⟩)
end
end Go
