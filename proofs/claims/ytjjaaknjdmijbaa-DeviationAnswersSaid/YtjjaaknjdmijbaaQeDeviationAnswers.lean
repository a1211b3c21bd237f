/- The statement is proved: for every input the law returns true, and its arguments read as before. No condition. -/
import Derived.Test.YtjjaaknjdmijbaaRows
import Derived.WalkKit
import Derived.ProofKit
import Derived.OpenShut
import Derived.ShutString
import Derived.ChangeOld
import Derived.Below
import Derived.Lib.SmallJoins
import Derived.Test.YtjjaaknjdmijbaaQeDeviationAnswersW
namespace Go.Proofs.Ytjjaaknjdmijbaa.deviationAnswers
open Go.ChangeShapes Go.WideShapes Go.ChangeAt Go.RowKit Go.Joins
open Go.ChangeMaps (open_string shut_string)
set_option linter.unusedVariables false

theorem own : ownKnob Try.prog.godebug = none := by kernel_rfl
theorem laidOut : laidOutB Try.prog = true := by kernel_rfl

/-- WHAT THE WALK IS TOLD OF A SLICE OF INTEGERS THAT CAME IN: it is nil; or it leads to a row of 'cap' cells, the numbers 'zs' (the first 'len' are its elements, the rest its spare room), each fitting its kind. -/
def IsRow (k : IntKind) (w : World) (a : Option Addr) (len cap : Nat) (zs : List Int) : Prop :=
  (a = none ∧ len = 0 ∧ cap = 0 ∧ zs = []) ∨
  ∃ x, a = some x ∧ len ≤ cap ∧ cap ≤ maxLen ∧ zs.length = cap ∧ (∀ i, i < zs.length → w.cell? (x.add i) = some (.int k (zs.getD i 0))) ∧ ∀ n ∈ zs, (Lit.int k n).wf = true

theorem rowAt_of {w : World} {a : Option Addr} {len cap : Nat} {zs : List Int} (h : IsRow .i64 w a len cap zs) : RowAt w a len cap := by
  rcases h with ⟨h1, h2, h3, _⟩ | ⟨x, h1, h2, h3, hz, hc, hw⟩
  · exact .inl ⟨h1, h2, h3⟩
  · refine .inr ⟨x, h1, h2, h3, fun i hi => ⟨zs.getD i 0, hc i (by omega), ?_⟩⟩
    have hi' : i < zs.length := by omega
    have hmem : zs.getD i 0 ∈ zs := by simp [List.getD, hi']
    have hw' := hw _ hmem
    have e1 : IntKind.i64.min = -9223372036854775808 := rfl
    have e2 : IntKind.i64.max = 9223372036854775807 := rfl
    simp [Lit.wf, e1, e2] at hw'
    exact hw'
theorem int_of {x : Int} (h : (Lit.int .i64 x).wf = true) : In64 x := by
  have e1 : IntKind.i64.min = -9223372036854775808 := rfl
  have e2 : IntKind.i64.max = 9223372036854775807 := rfl
  simp [Lit.wf, e1, e2] at h
  exact h

theorem cells24 : Try.prog.cellsOf 24 = 3 := by kernel_rfl
theorem row_in {H : Type} {enc : TypeId × Value → H} {W : World} {m : Nat} {c0 : Value} {y : DataW H × List MemPlace} (h : DataW.trod enc Try.prog W 0 (fun _ => true) true m 22 [c0] = some y) :
    ∃ (a : Option Addr) (n cap : Nat) (zs : List Int), c0 = .slice a n cap ∧ (n ≤ 800 → RowZ W a n cap zs) := by
  rcases open_ints Try.underlying22 Try.underlying3 (by kernel_rfl) h with ⟨hcs, _⟩ | ⟨x, l, c, zs, hcs, _, hl, hm, hz, _, hcell, hwz⟩
  · simp at hcs
    exact ⟨none, 0, 0, [], hcs, fun _ => rowZ_nil W⟩
  · simp at hcs
    have hz' : zs.length = c := by simpa using hz
    refine ⟨some x, l, c, zs.take l, hcs, fun hn => ⟨by rw [List.length_take]; omega, hl, by omega, hm, fun i hi => ⟨x, rfl, ?_⟩, fun i hi => ?_⟩⟩
    · rw [getD_take hi]; exact hcell i (by omega)
    · rw [getD_take hi]
      have hi' : i < zs.length := by omega
      exact int_of (hwz _ (by simp [List.getD, hi']))

/-! ### THE ROW's STEP: WRITTEN OUT: LEAVE IT -/
set_option maxRecDepth 100000 in
theorem lifted (os : Os) (started : os.Started) (H : Type) (enc : TypeId × Value → H) :
    ReturnsInHanded {} Try.checked os 7 .any (Rows.deviationAnswersSpec.pre6 enc Try.prog Try.f7 Rows.deviationAnswersRow.domain false) (Rows.deviationAnswersSpec.post enc Try.prog Try.f7 false true false false) := by
  refine returnsInHanded_of_change (C := Try.checked) own started (by kernel_rfl) Try.func7
    (ChangeSpec.witness6 (enc := enc) (C := Try.checked) false ⟨#[], #[.agg #[.slice none 0 0, .int .i64 0, .int .i64 0], .agg #[.slice none 0 0, .int .i64 0, .int .i64 0], .int .i64 0, .slice none 0 0], []⟩ 8 (by kernel_rfl) (by kernel_rfl) (by kernel_rfl) (by kernel_rfl)) ?_
  intro W base args ds gs before hval0 hW hcnd _
  have hval : ∀ (j : Nat) t v, Try.f7.params[j]? = some t → args[j]? = some v → Value.okWide Try.prog W .any base t v := hval0
  have hW' := hW
  obtain ⟨p, q, hA0, hV, rfl, hfz, hnd⟩ := hW
  have hA : DataW.TrodAll enc Try.prog W 0 (fun _ => true) true Try.f7.params.toList args.toList ds p := hA0
  rw [Try.params7] at hA hval
  obtain ⟨v0, vs0, d0, ds0, p0, q0, hargs, rfl, rfl, h0, r0⟩ := trodAll_cons hA
  obtain ⟨v1, vs1, d1, ds1, p1, q1, rfl, rfl, rfl, h1, r1⟩ := trodAll_cons r0
  obtain ⟨v2, vs2, d2, ds2, p2, q2, rfl, rfl, rfl, h2, r2⟩ := trodAll_cons r1
  obtain ⟨v3, vs3, d3, ds3, p3, q3, rfl, rfl, rfl, h3, r3⟩ := trodAll_cons r2
  obtain ⟨rfl, rfl, rfl⟩ := trodAll_nil r3
  obtain rfl : args = #[v0, v1, v2, v3] := by cases args; simp_all
  obtain ⟨rfl, rfl⟩ := trodVars_none hV
  have k0 := h0
  have lt0 : ∀ x ∈ p0, x.block < W.heap.size := by obtain ⟨m, hm⟩ := h0; exact DataW.trod_lt m _ _ _ hm
  have k1 := h1
  have lt1 : ∀ x ∈ p1, x.block < W.heap.size := by obtain ⟨m, hm⟩ := h1; exact DataW.trod_lt m _ _ _ hm
  obtain ⟨cA, cB, cC, yA, yB, yC, mA, rfl, rfl, rfl, hyA, hyB, hyC⟩ := open_agg3 Try.underlying24 (by kernel_rfl) cells24 (hval 0 24 v0 rfl rfl) h0
  obtain ⟨aR, nR, cR, zR, rfl, hR⟩ := row_in hyA
  obtain ⟨pR, eB, _, wpR⟩ := DataW.trod_int Try.underlying3 hyB
  obtain ⟨iR, eC, _, wiR⟩ := DataW.trod_int Try.underlying3 hyC
  simp at eB eC
  subst eB eC
  obtain ⟨cA', cB', cC', yA', yB', yC', mA', rfl, rfl, rfl, hyA', hyB', hyC'⟩ := open_agg3 Try.underlying24 (by kernel_rfl) cells24 (hval 1 24 v1 rfl rfl) h1
  obtain ⟨aO, nO, cO, zO, rfl, hO⟩ := row_in hyA'
  obtain ⟨pO, eB', _, wpO⟩ := DataW.trod_int Try.underlying3 hyB'
  obtain ⟨iO, eC', _, wiO⟩ := DataW.trod_int Try.underlying3 hyC'
  simp at eB' eC'
  subst eB' eC'
  obtain ⟨t2, rfl, rfl, rfl, w2⟩ := open_int Try.underlying3 (hval 2 3 v2 rfl rfl) h2
  obtain ⟨a3, len3, cap3, rfl⟩ := okWide_slice Try.underlying22 (hval 3 22 v3 rfl rfl)
  have k3 := h3
  have ltq3 : ∀ x ∈ p3, x.block < W.heap.size := by obtain ⟨m, hm⟩ := k3; exact DataW.trod_lt m _ _ _ hm
  obtain ⟨z3, w3⟩ : ∃ zs, IsRow .i64 W a3 len3 cap3 zs := by
    obtain ⟨fuel, hf⟩ := h3
    rcases open_ints Try.underlying22 Try.underlying3 (by kernel_rfl) hf with ⟨hcs, _⟩ | ⟨x, l, c, zs, hcs, _, hl, hm, hz, _, hcell, hwz⟩
    · simp [Value.cells] at hcs
      obtain ⟨rfl, rfl, rfl⟩ := hcs
      exact ⟨[], .inl ⟨rfl, rfl, rfl, rfl⟩⟩
    · simp [Value.cells] at hcs
      obtain ⟨rfl, rfl, rfl⟩ := hcs
      exact ⟨zs, .inr ⟨_, rfl, hl, hm, by simpa using hz, hcell, hwz⟩⟩
  clear hA0 hval0
  refine (deviationAnswers_walk W aR nR cR zR pR iR aO nO cO zO pO iO t2 a3 len3 cap3 hR (int_of wpR) (int_of wiR) hO (int_of wpO) (int_of wiO) (int_of w2) (rowAt_of w3)).mono fun e W' ⟨he, bel⟩ => ?_
  subst he
  exact ⟨_, rfl, _, _, _, [], _, [], hW', trodAll_mk1 (shut_bool Try.underlying4 _), (trodAll_cons_mk (Below.trod laidOut (by kernel_rfl) (of_decide_eq_true (by kernel_rfl)) k0 bel lt0) (trodAll_cons_mk (Below.trod laidOut (by kernel_rfl) (of_decide_eq_true (by kernel_rfl)) k1 bel lt1) (trodAll_cons_mk (shut_int Try.underlying3 w2) (trodAll_cons_mk (Below.trod laidOut (by kernel_rfl) (of_decide_eq_true (by kernel_rfl)) k3 bel ltq3) trodAll_mk0)))), rfl, bel.frame _, fun h => by cases h⟩

theorem fact1 : Try.pinned.checked.prog.funcNamed Rows.deviationAnswersRow.func = some 7 := by kernel_rfl
theorem fact2a : Try.pinned.checked.prog.mayEnter = true := by kernel_rfl
theorem fact2b : (Rows.deviationAnswersRow.lifted == Try.pinned.checked.prog.liftsFinal) = true := by kernel_rfl
theorem fact2c : (Try.pinned.checked.prog.make == some Rows.deviationAnswersRow.make) = true := by kernel_rfl
theorem fact2 : joinedFacts Try.pinned.checked.prog 7 Try.f7 Rows.deviationAnswersSpec Rows.deviationAnswersRow = true := by
  unfold joinedFacts
  rw [fact2a, fact2b, fact2c]
  kernel_rfl
theorem fact3 : Func.isInstance Try.pinned.checked.prog Try.f7 Rows.deviationAnswersRow.origin Rows.deviationAnswersRow.targs := of_decide_eq_true (by kernel_rfl)
theorem fact4 : Func.isWrapper Try.pinned.checked.prog Try.f7 Rows.deviationAnswersRow.wrapper Rows.deviationAnswersRow.mainSum := by unfold Func.isWrapper; first | (rw [if_pos (by decide +kernel)]; kernel_rfl) | (rw [if_neg (by decide +kernel)]; exact ⟨rfl, rfl⟩)
theorem over : Rows.deviationAnswersRow.holds Try.pinned (OpenSpec.ofChange Rows.deviationAnswersSpec) :=
  OpenClaim.holds_of_wide 7 Try.f7 rfl rfl rfl rfl rfl rfl rfl ⟨rfl, rfl, rfl, rfl, rfl⟩ rfl rfl rfl rfl rfl fact1 Try.func7 fact2 fact3 fact4
    (fun os started H enc _ => lifted os started H enc)

/-- ████ THE STATEMENT ████ -/
theorem proved : Rows.DeviationAnswersSaid := over
#print axioms proved
end Go.Proofs.Ytjjaaknjdmijbaa.deviationAnswers
