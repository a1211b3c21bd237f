/- A law: a range over a function that hands out a list known ahead; the round knows the place of what it is handed. The body never leaves the loop. By the verifier's side. -/
import Derived.Test.YtknimlpdpgpliaaProg
import Derived.RangeFuncNested
import Derived.RangeFuncBound
import Derived.RangeFuncCalls
import Derived.RangeFuncLeaves
namespace Go
open Go.RowKit
set_option linter.unusedSimpArgs false
set_option linter.unusedVariables false
/-- An iterator's contract: it hands out the list xs, one after the other, as long as each round goes on. -/
def SeqOf {α : Type} (F : Fence) (n : Nat) (P : Program) (g : Nat) (lb : Array Value) (encs : α → Array Value) (Kp : World → World → Prop) (xs : List α) (w : World) : Prop :=
  ∀ (l : Nat) (J : Nat → World → Prop) (W : World), Below w.heap.size w W → AbidesFrom W.heap.size J →
    (∀ k x W1, xs[k]? = some x → J k W1 → YieldAt F (n - 1) P l (encs x) W1 fun e W' => e = .returned (.bool true) ∧ J (k + 1) W' ∧ Kp W1 W') →
    J 0 W → CallsIn F n P g (#[.func (.yield l) #[] #[]] ++ lb) W fun e W' => (∃ v, e = .returned v) ∧ J xs.length W'
/-- How a round's body ends: off its end, one further. -/
def roundL (B : Nat) (Kp : World → World → Prop) (I : Nat → World → Prop) (k : Nat) (W : World) : Exit → Act → World → Prop
  | .normal, _, W' => KeepsFrom B W W' ∧ Kp W W' ∧ I (k + 1) W'
  | _, _, _ => False
/-- The two blocks of book-keeping of a loop. -/
def BookL (D : Nat) (r : Loop) (W : World) : Prop := W.heap[D + 1]? = some (.loop r) ∧ W.heap[D]? = some (.deferred (some []))
theorem BookL.kept {D B : Nat} {r : Loop} {W V : World} (h : BookL D r W) (hB : B ≤ D) (hk : KeepsFrom B W V) : BookL D r V := ⟨hk.same _ _ (by omega) h.1 rfl, hk.same _ _ hB h.2 rfl⟩
theorem BookL.put {D : Nat} {r r' : Loop} {W : World} (h : BookL D r W) : BookL D r' (W.putObj (D + 1) (.loop r')) :=
  ⟨World.putObj_heap_same (Array.getElem?_eq_some_iff.1 h.1).1, (World.putObj_heap_other (by omega)).trans h.2⟩
theorem BookL.abides {D B : Nat} {r : Loop} {W V : World} {row : Option Nat} (h : BookL D r W) (hg : W.grownBy V row) (hr : ∀ j, row = some j → B ≤ j ∧ ∃ o : Obj, W.heap[j]? = some o ∧ o.isWalk = true) : BookL D r V :=
  ⟨(grownBy_keeps hg (fun j e => (hr j e).2) h.1 rfl).trans h.1, (grownBy_keeps hg (fun j e => (hr j e).2) h.2 rfl).trans h.2⟩
section
variable {F : Fence} {n : Nat} {P : Program}
theorem wpIn_rangeFunc_list {α : Type} {g : Operand} {ps : Array Tmp} {assign body : Code} {Q : Exit → Act → World → Prop} {a : Act} {w : World} (hro : F.round = none) (h1 : 1 ≤ n) {gf : Nat} {lb : Array Value} (hg : a.eval g = .func (.func gf) #[] lb) (hFg : F.fn gf)
    (eg : ∀ args w, (callFunc gf args).run P w = .ok (.enter gf args) w) {encs : α → Array Value} {Kp : World → World → Prop} {xs : List α} (hseq : SeqOf F (n - 1) P gf lb encs Kp xs w)
    (hKt : ∀ {A B C : World}, Kp A B → Kp B C → Kp A C) (hKb : ∀ (W : World) (l : Nat) (o o' : Obj), w.heap.size ≤ l → W.heap[l]? = some o → o.isCells = false → o.isWalk = false → Kp W (W.putObj l o')) (hps : ∀ x, (encs x).size = ps.size)
    (I : Nat → World → Prop) (hI : OwnFrom w.heap.size I) (h0 : I 0 w) (a1 : α → Act)
    (hassign : ∀ (l : Nat) (x : α) (W : World) (K : Act → World → Prop), K (a1 x) W → assign.wpIn (F.inRound l) (n - 1 - 1) P (Exit.then K (fun _ _ _ => False)) { tmps := (ps.zip (encs x)).foldl (fun t (p, v) => t.setIfInBounds p v) a.tmps, defers := [] } W)
    (hbody : ∀ (l k : Nat) (x : α) (W : World), w.heap.size ≤ l → xs[k]? = some x → I k W → body.wpIn (F.inRound l) (n - 1 - 1) P (roundL w.heap.size Kp I k W) (a1 x) W)
    (hdone : ∀ (D : Nat) (W : World), w.heap.size ≤ D → I xs.length W → W.heap[D]? = some (.deferred (some [])) → Q .normal { a with defers := { target := .collected D, args := #[] } :: a.defers } W) :
    (Code.rangeFunc g ps assign body).wpIn F n P Q a w := by
  refine wpIn_rangeFunc fun fn hfn => ?_
  rw [hro]
  have fresh : ∀ (r : Loop), BookL w.heap.size r ((w.alloc (.deferred (some []))).alloc (.loop r)) := fun r =>
    ⟨by have := World.alloc_heap_new (w.alloc (.deferred (some []))) (.loop r); rwa [World.size_alloc] at this, (Below.heap_alloc _ _ _ (by simp)).trans (World.alloc_heap_new w _)⟩
  have hsz : ∀ (r : Loop), ((w.alloc (.deferred (some []))).alloc (.loop r)).heap.size = w.heap.size + 2 := fun r => by simp
  have hst : ∀ (r : Loop), I 0 ((w.alloc (.deferred (some []))).alloc (.loop r)) := fun r => hI.alloc _ (hI.alloc _ h0)
  have hbl : ∀ (r : Loop), Below w.heap.size w ((w.alloc (.deferred (some []))).alloc (.loop r)) := fun r => ((Below.refl _ w).alloc (Nat.le_refl _) _).alloc (by simp) _
  refine ⟨_, _, ((w.alloc (.deferred (some []))).alloc (.loop { state := .ready, pending := none, fn, tmps := a.tmps, params := ps, assign, body, defers := w.heap.size })), { target := .fn (.func gf) lb, args := #[.func (.yield (w.heap.size + 1)) #[] #[]] }, ((w.alloc (.deferred (some []))).alloc (.loop { state := .ready, pending := none, fn, tmps := a.tmps, params := ps, assign, body, defers := w.heap.size })), gf, #[.func (.yield (w.heap.size + 1)) #[] #[]] ++ lb, ((w.alloc (.deferred (some []))).alloc (.loop { state := .ready, pending := none, fn, tmps := a.tmps, params := ps, assign, body, defers := w.heap.size })), run_enterLoop_outer _ _ _ _ _, ?_, ?_, ?_, fun _ => h1, ?_⟩
  · simp only [resolve, hg]
    simp [go_sem]
  · intro f' hf'
    simp [Target.leads] at hf'
    subst hf'; exact hFg
  · simp [invoke, go_sem, eg]
  · generalize hr0 : ({ state := .ready, pending := none, fn, tmps := a.tmps, params := ps, assign, body, defers := w.heap.size } : Loop) = r0
    have e1 : r0.state = .ready := by rw [← hr0]
    have e2 : r0.fn = fn := by rw [← hr0]
    have e3 : r0.assign = assign := by rw [← hr0]
    have e4 : r0.body = body := by rw [← hr0]
    have e5 : r0.params = ps := by rw [← hr0]
    have e6 : r0.tmps = a.tmps := by rw [← hr0]
    have e7 : r0.pending = none := by rw [← hr0]
    refine (hseq (w.heap.size + 1) (fun k W => I k W ∧ BookL w.heap.size r0 W) _ (hbl r0) (fun k A V row hs hgr hr => ?_) (fun k x W hx ⟨hi, hb⟩ => ?_) ⟨hst r0, fresh r0⟩).mono ?_
    · exact ⟨hI k A V row hs.1 hgr (fun j e => by obtain ⟨h1, o, ho, hw⟩ := hr j e; exact ⟨by have := hsz r0; omega, o, ho, Obj.not_cells_of_walk hw⟩), hs.2.abides hgr hr⟩
    · -- one round
      have hy := run_yield (P := P) (args := encs x) hb.1 (by rw [e5]; exact hps x)
      rw [e2, e3, e4, e5, e6] at hy
      refine ⟨fn, _, assign, body, hy, roundIn_of_wpIn hfn (hassign _ x W _ ⟨_, run_beginRound hb.1 e1, ?_⟩)⟩
      have hb2 : BookL w.heap.size { r0 with state := .busy } (W.putObj (w.heap.size + 1) (.loop { r0 with state := .busy })) := hb.put
      have hk2 := hKb W (w.heap.size + 1) _ (.loop { r0 with state := .busy }) (by omega) hb.1 rfl rfl
      refine wpIn_mono (hbody _ k x _ (by omega) hx (hI.putObj _ hi (by omega) hb.1 rfl)) ?_
      rintro e a3 W3 hp
      cases e with
      | normal =>
        obtain ⟨q1, q2, q3⟩ := hp
        have hb3 := hb2.kept (Nat.le_refl _) q1
        have he := run_endRound (P := P) none hb3.1
        have er : ({ ({ r0 with state := .busy } : Loop) with state := if (none : Option Code).isNone then .ready else .done, pending := none } : Loop) = r0 := by rw [← hr0]; rfl
        rw [er] at he
        exact ⟨_, _, he, rfl, ⟨hI.putObj _ q3 (by omega) hb3.1 rfl, hb3.put⟩, hKt (hKt hk2 q2) (hKb _ _ _ _ (by omega) hb3.1 rfl rfl)⟩
      | ret => exact hp.elim
      | exit id => exact hp.elim
      | goto t => exact hp.elim
      | panic ch => exact hp.elim
      | outgrown => exact hp.elim
    · rintro e W2 ⟨⟨v, rfl⟩, hi, hb⟩
      have he := run_endLoop (P := P) hb.1 (by rw [e1]; decide)
      rw [e7] at he
      exact ⟨none, _, he, hdone _ _ (Nat.le_refl _) (hI.putObj _ hi (by omega) hb.1 rfl) ((World.putObj_heap_other (by omega)).trans hb.2)⟩
end
end Go
