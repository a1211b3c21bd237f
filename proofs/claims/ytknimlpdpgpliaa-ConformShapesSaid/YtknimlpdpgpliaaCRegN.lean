/- The law of XRegI within a round of a range over a function, for operations that call nothing; an operation may know that it has not come up. By the verifier's side. -/
import Derived.Test.YtknimlpdpgpliaaCRegI
import Derived.OrdersIn
import Derived.TacticsIn
import Derived.RangeFuncCalls
namespace Go
set_option linter.unusedSimpArgs false
set_option linter.unusedVariables false
/-- An operation that calls nothing and defers nothing. -/
def plainB (o : Oper) : Bool := match o.op with
  | .load .. | .store .. | .binOp .. | .fieldAddr .. | .indexAddr .. | .move .. | .assign .. => true
  | _ => false
theorem exec_plain {P : Program} {o : Oper} (hp : plainB o = true) (ρ : Operand → Value) (w : World) : ∀ x w', (execOp ρ o).run P w = .ok x w' → (∃ v, x = .value v) ∨ x = .skip := by
  have key : ∀ (s : Sem Value) x w', (do pure (Next.value (← s)) : Sem Next).run P w = .ok x w' → (∃ v, x = .value v) ∨ x = .skip := fun s x w' h => by
    simp only [Sem.run_bind, Sem.run_pure] at h
    cases hs : s.run P w with
    | ok v w1 => rw [hs] at h; simp only [Result.andThen_ok] at h; cases h; exact .inl ⟨_, rfl⟩
    | halt y w1 => rw [hs] at h; simp [Result.andThen] at h
  have key2 : ∀ (s : Sem Unit) x w', (do s; pure Next.skip : Sem Next).run P w = .ok x w' → (∃ v, x = .value v) ∨ x = .skip := fun s x w' h => by
    simp only [Sem.run_bind, Sem.run_pure] at h
    cases hs : s.run P w with
    | ok v w1 => rw [hs] at h; simp only [Result.andThen_ok] at h; cases h; exact .inr rfl
    | halt y w1 => rw [hs] at h; simp [Result.andThen] at h
  unfold plainB at hp
  unfold execOp
  cases ho : o.op <;> simp only [ho] at hp ⊢ <;> first | (exact absurd hp (by decide)) | skip
  all_goals first | exact key _ | exact key2 _ | (intro x w' h; simp only [Sem.run_pure] at h; cases h; exact .inl ⟨_, rfl⟩)
section
variable {F : Fence} {n l0 : Nat} {P : Program} {ops : Array Oper} {Q : Exit → Act → World → Prop} {md : Region.Mode}
theorem wpIn_plain {o : Oper} (hp : plainB o = true) {a : Act} {w : World} {K : Act → World → Prop} (h : Oper.wp P o a w K Q) : Oper.wpIn (F.inRound l0) n P o a w K Q := by
  unfold Oper.wpIn
  refine ⟨fun f hf => ?_, ?_⟩
  · unfold plainB at hp
    unfold Oper.about at hf
    cases ho : o.op <;> simp only [ho] at hp hf <;> first | cases hf | exact absurd hp (by decide)
  · have e : Oper.semAt (F.inRound l0).round a.eval o = execOp a.eval o := Oper.semAt_some l0 a.eval o (fun c hc => by unfold plainB at hp; rw [hc] at hp; exact Bool.false_ne_true hp)
    rw [e]
    unfold Oper.wp at h
    have hx := exec_plain (P := P) hp a.eval w
    generalize (execOp a.eval o).run P w = r at h hx
    cases r with
    | ok x w' =>
      rcases hx x w' rfl with ⟨v, rfl⟩ | rfl
      · exact h
      · exact h
    | halt y w' => cases y <;> simp only [Oper.upon, Oper.uponIn] at h ⊢ <;> exact h
end
end Go
