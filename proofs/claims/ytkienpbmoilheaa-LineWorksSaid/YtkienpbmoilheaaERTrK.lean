/- The document's Order: a region that draws its order with two appends in it, under an invariant. By the verifier's side. -/
import Derived.Test.YtkienpbmoilheaaERTrARTrB
import Derived.Test.YtkienpbmoilheaaETrC
import Derived.Test.YtkienpbmoilheaaEBaseApartPickKeepS
import Derived.Test.YtkienpbmoilheaaERegI
namespace Go.Proofs.Ytkienpbmoilheaa
open Go.RowKit Go.Shelf
set_option linter.unusedSimpArgs false
set_option linter.unusedVariables false

theorem PkR.drop {w : World} {B off n cap : Nat} {l : List Pk} (h : PkR w (some ⟨B, off, none⟩) n cap l) (m : Nat) (hm : m ≤ n) : PkR w (some ⟨B, off + m * 3, none⟩) (n - m) (cap - m) (l.drop m) := by
  refine ⟨by rw [List.length_drop, h.len], by have := h.le; omega, by have := h.sm; omega, by have := h.cm; omega, ?_, fun q hq => h.bd q (List.mem_of_mem_drop hq)⟩
  by_cases e : n - m = 0
  · exact .inl ⟨e, fun _ _ => trivial⟩
  · rcases h.place with ⟨h0, _⟩ | ⟨B', off', ha, hc⟩
    · omega
    · cases ha
      refine .inr ⟨B, off + m * 3, rfl, fun i q hq => ?_⟩
      rw [List.getElem?_drop] at hq
      have e3 : off + (m + i) * 3 = off + m * 3 + i * 3 := by omega
      have := hc (m + i) q hq
      rw [e3] at this
      exact this
theorem PkR.take {w : World} {a : Option Addr} {n cap : Nat} {l : List Pk} (h : PkR w a n cap l) (m : Nat) (hm : m ≤ n) : PkR w a m cap (l.take m) := by
  refine ⟨by rw [List.length_take, h.len]; omega, by have := h.le; omega, by have := h.sm; omega, h.cm, ?_, fun q hq => h.bd q (List.mem_of_mem_take hq)⟩
  rcases h.place with ⟨h0, _⟩ | ⟨B', off', ha, hc⟩
  · exact .inl ⟨by omega, fun _ _ => trivial⟩
  · refine .inr ⟨B', off', ha, fun i q hq => ?_⟩
    rw [List.getElem?_take] at hq
    by_cases c : i < m
    · rw [if_pos c] at hq; exact hc i q hq
    · rw [if_neg c] at hq; cases hq
theorem wpAny_invT {P : Program} {ops : Array Oper} {Q : Exit → Act → World → Prop} {md : Region.Mode} (I : Array Bool → Act → World → Prop) (hB : downB md ops = true)
    (hstep : ∀ (i : Nat) (o : Oper), ops[i]? = some o → ∀ (listed : Array Bool) (a : Act) (w : World), listed.getD i true = false → (∀ e ∈ o.after, Region.binds md e = true → listed.getD e.on false = true) → I listed a w →
      ∀ K' : Act → World → Prop, Shut (∀ a w, I (listed.setIfInBounds i true) a w → K' a w) → if Region.wanted o (yielded ops a.tmps) = true then Oper.wp P o a w K' Q else K' (a.put o.dst undef) w)
    (hdone : ∀ (listed : Array Bool) (a : Act) (w : World), (∀ j, j < ops.size → listed.getD j false = true) → I listed a w → Q .normal a w) :
    ∀ (fuel : Nat) (listed : Array Bool) (a : Act) (w : World), listed.size = ops.size → leftB listed = fuel → I listed a w → wpAny P md ops Q fuel listed a w := by
  intro fuel
  induction fuel with
  | zero => intro listed a w hs h hI; exact ⟨ready_zero h, hdone listed a w (all_listed hB hs (ready_zero h)) hI⟩
  | succ fuel ih =>
    intro listed a w hz h hI
    refine ⟨fun hr => hdone listed a w (all_listed hB hz hr) hI, fun i hi => ?_⟩
    obtain ⟨h1, o, ho, h2⟩ := mem_ready.1 hi
    have hs := leftB_set h1
    exact wpOp_step ho (fun K' hK => hstep i o ho listed a w h1 h2 hI K' (fun a w hI => hK a w (ih _ a w (by simpa using hz) (by omega) hI)))
theorem put_selfR (a : Act) (k : Nat) : a.put (some k) (a.tmps.getD k undef) = a := putL_slots a 1 k
/-- One operation, shown whatever has come up; besides the frame's new values one more may change. -/
def StepR (P : Program) (Q : Exit → Act → World → Prop) (a : Act) (k r : Nat) (I : List Value → Value → Array Bool → World → Prop) (i : Nat) (o : Oper) (ops : Array Oper) : Prop :=
  ∀ (listed : Array Bool) (ts : List Value) (x : Value) (w : World), listed.getD i true = false → (∀ e ∈ o.after, Region.binds .any e = true → listed.getD e.on false = true) → I ts x listed w →
    ∀ K' : Act → World → Prop, Shut (∀ ts' x' w, I ts' x' (listed.setIfInBounds i true) w → K' ((putL a k ts').put (some r) x') w) → if Region.wanted o (yielded ops ((putL a k ts).put (some r) x).tmps) = true then Oper.wp P o ((putL a k ts).put (some r) x) w K' Q else K' (((putL a k ts).put (some r) x).put o.dst undef) w
def StepsR (P : Program) (Q : Exit → Act → World → Prop) (a : Act) (k r : Nat) (I : List Value → Value → Array Bool → World → Prop) (ops : Array Oper) (i : Nat) (l : List Oper) : Prop :=
  ∀ j o, l[j]? = some o → StepR P Q a k r I (i + j) o ops
theorem StepsR.nil {P : Program} {Q : Exit → Act → World → Prop} {a : Act} {k r : Nat} {I : List Value → Value → Array Bool → World → Prop} {ops : Array Oper} {i : Nat} : StepsR P Q a k r I ops i [] := fun j o h => by simp at h
theorem StepsR.cons {P : Program} {Q : Exit → Act → World → Prop} {a : Act} {k r : Nat} {I : List Value → Value → Array Bool → World → Prop} {ops : Array Oper} {i j : Nat} {o : Oper} {os : List Oper} (hj : j = i + 1) (h : StepR P Q a k r I i o ops) (hs : StepsR P Q a k r I ops j os) : StepsR P Q a k r I ops i (o :: os) := fun q x hq => by
  cases q with
  | zero => cases hq; exact h
  | succ q =>
    have := hs q x (by simpa using hq)
    rwa [hj, show i + 1 + q = i + (q + 1) by omega] at this
theorem wp_region_invR {P : Program} {Q : Exit → Act → World → Prop} {id : Nat} {l : List Oper} {a : Act} {w : World} (k m r : Nat) (I : List Value → Value → Array Bool → World → Prop) (hm : P.follows .mixedOrders = true) (hB : downB .any l.toArray = true)
    (h0 : I (slots a k m) (a.tmps.getD r undef) (Array.replicate l.toArray.size false) w.drew)
    (hstep : StepsR P Q a k r I l.toArray 0 l)
    (hdone : ∀ (listed : Array Bool) (ts : List Value) (x : Value) (w : World), (∀ j, j < l.toArray.size → listed.getD j false = true) → I ts x listed w → Q .normal ((putL a k ts).put (some r) x) w) : (Code.region id l.toArray true).wp P Q a w :=
  wp_region_any hm (wpAny_invT (fun listed a' w => ∃ ts x, a' = (putL a k ts).put (some r) x ∧ I ts x listed w) hB
    (fun i o ho listed a' w hi hall ⟨ts, x, he, hI⟩ K' hK => by
      rw [he]
      have h1 := hstep i o (by simpa using ho)
      rw [Nat.zero_add] at h1
      exact h1 listed ts x w hi hall hI K' (fun ts' x' w' hI' => hK _ w' ⟨ts', x', rfl, hI'⟩))
    (fun listed a' w hA ⟨ts, x, he, hI⟩ => by rw [he]; exact hdone listed ts x w hA hI)
    _ _ _ _ (by simp) (leftB_replicate _) ⟨_, _, by rw [putL_slots, put_selfR], h0⟩)
theorem getD_self {l : Array Bool} {i : Nat} (h : l.getD i true = false) : (l.setIfInBounds i true).getD i false = true := by
  have hi : i < l.size := by
    by_cases hi : i < l.size
    · exact hi
    · rw [Array.getD_eq_getD_getElem?, Array.getElem?_eq_none (by omega)] at h; cases h
  rw [Array.getD_eq_getD_getElem?, Array.getElem?_setIfInBounds_self_of_lt hi]; rfl
theorem getD_no {l : Array Bool} {i : Nat} (h : l.getD i true = false) : l.getD i false = false := by
  by_cases hi : i < l.size
  · rw [Array.getD_eq_getD_getElem?, Array.getElem?_eq_getElem hi] at h ⊢; exact h
  · rw [Array.getD_eq_getD_getElem?, Array.getElem?_eq_none (by omega)]; rfl
section
variable {X V1 V2 V4 V5 V6 V7 V10 : Value} {q : Pk} {A C : List Pk} {w6 : World} {t0 t1 t2 t3 t4 t5 t6 t7 t8 t9 t10 t11 x : Value} {L : Array Bool} {wx : World}
end

end Go.Proofs.Ytkienpbmoilheaa
