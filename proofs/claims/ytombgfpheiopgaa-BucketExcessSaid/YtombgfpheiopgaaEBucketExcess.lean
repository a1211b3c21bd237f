/- The statement is proved: for every input the law returns true, and its arguments read as before. No condition. -/
import Derived.Test.YtombgfpheiopgaaRows
import Derived.WalkKit
import Derived.ProofKit
import Derived.OpenShut
import Derived.ShutString
import Derived.ChangeOld
import Derived.Below
import Derived.Lib.SmallJoins
import Derived.Test.YtombgfpheiopgaaEBucketExcessW
namespace Go.Proofs.Ytombgfpheiopgaa.bucketExcess
open Go.ChangeShapes Go.WideShapes Go.ChangeAt Go.RowKit Go.Joins
open Go.ChangeMaps (open_string shut_string)
set_option linter.unusedVariables false

theorem own : ownKnob Try.prog.godebug = none := by kernel_rfl
theorem laidOut : laidOutB Try.prog = true := by kernel_rfl

/-- WHAT THE WALK IS TOLD OF A SLICE OF INTEGERS THAT CAME IN: it is nil; or it leads to a row of 'cap' cells, the numbers 'zs' (the first 'len' are its elements, the rest its spare room), each fitting its kind. -/
def IsRow (k : IntKind) (w : World) (a : Option Addr) (len cap : Nat) (zs : List Int) : Prop :=
  (a = none ∧ len = 0 ∧ cap = 0 ∧ zs = []) ∨
  ∃ x, a = some x ∧ len ≤ cap ∧ cap ≤ maxLen ∧ zs.length = cap ∧ (∀ i, i < zs.length → w.cell? (x.add i) = some (.int k (zs.getD i 0))) ∧ ∀ n ∈ zs, (Lit.int k n).wf = true

theorem rowAt_of {w : World} {a : Option Addr} {len cap : Nat} {zs : List Int} (h : IsRow .i64 w a len cap zs) : RowAt w a len cap := by
  rcases h with ⟨h1, h2, h3, _⟩ | ⟨x, h1, h2, h3, hz, hc, hw⟩
  · exact .inl ⟨h1, h2, h3⟩
  · refine .inr ⟨x, h1, h2, h3, fun i hi => ⟨zs.getD i 0, hc i (by omega), ?_⟩⟩
    have hi' : i < zs.length := by omega
    have hmem : zs.getD i 0 ∈ zs := by simp [List.getD, hi']
    have hw' := hw _ hmem
    have e1 : IntKind.i64.min = -9223372036854775808 := rfl
    have e2 : IntKind.i64.max = 9223372036854775807 := rfl
    simp [Lit.wf, e1, e2] at hw'
    exact hw'
theorem int_of {x : Int} (h : (Lit.int .i64 x).wf = true) : In64 x := by
  have e1 : IntKind.i64.min = -9223372036854775808 := rfl
  have e2 : IntKind.i64.max = 9223372036854775807 := rfl
  simp [Lit.wf, e1, e2] at h
  exact h

theorem cells74 : Try.prog.cellsOf 74 = 4 := by kernel_rfl
theorem cells72 : Try.prog.cellsOf 72 = 2 := by kernel_rfl
theorem rowZ_nil (w : World) : RowZ w none 0 0 [] := ⟨rfl, Nat.le_refl _, Nat.zero_le _, by omega, fun i hi => absurd hi (Nat.not_lt_zero _), fun i hi => absurd hi (Nat.not_lt_zero _)⟩
theorem row_in {H : Type} {enc : TypeId × Value → H} {W : World} {m : Nat} {c0 : Value} {y : DataW H × List MemPlace} (h : DataW.trod enc Try.prog W 0 (fun _ => true) true m 22 [c0] = some y) :
    ∃ (a : Option Addr) (n cap : Nat) (zs : List Int), c0 = .slice a n cap ∧ (n ≤ 800 → RowZ W a n cap zs) := by
  rcases open_ints Try.underlying22 Try.underlying3 (by kernel_rfl) h with ⟨hcs, _⟩ | ⟨x, l, c, zs, hcs, _, hl, hm, hz, _, hcell, hwz⟩
  · simp at hcs
    exact ⟨none, 0, 0, [], hcs, fun _ => rowZ_nil W⟩
  · simp at hcs
    have hz' : zs.length = c := by simpa using hz
    refine ⟨some x, l, c, zs.take l, hcs, fun hn => ⟨by rw [List.length_take]; omega, hl, by omega, hm, fun i hi => ⟨x, rfl, ?_⟩, fun i hi => ?_⟩⟩
    · rw [getD_take hi]; exact hcell i (by omega)
    · rw [getD_take hi]
      have hi' : i < zs.length := by omega
      exact int_of (hwz _ (by simp [List.getD, hi']))
set_option maxRecDepth 100000 in
theorem open_frac {H : Type} {enc : TypeId × Value → H} {W : World} {m : Nat} {c0 c1 : Value} {y : DataW H × List MemPlace} (h : DataW.trod enc Try.prog W 0 (fun _ => true) true m 72 [c0, c1] = some y) :
    ∃ x z : Int, c0 = .int .i64 x ∧ c1 = .int .i64 z := by
  obtain ⟨y0, y1, n, _, _, h0, h1⟩ := trod_struct2 Try.underlying72 h
  have c3 : Try.prog.cellsOf 3 = 1 := by kernel_rfl
  have h0' : DataW.trod enc Try.prog W 0 (fun _ => true) true n 3 [c0] = some y0 := by simpa [c3] using h0
  have h1' : DataW.trod enc Try.prog W 0 (fun _ => true) true n 3 [c1] = some y1 := by simpa [c3] using h1
  obtain ⟨x, e0, _, _⟩ := DataW.trod_int Try.underlying3 h0'
  obtain ⟨z, e1, _, _⟩ := DataW.trod_int Try.underlying3 h1'
  simp at e0 e1
  exact ⟨x, z, e0, e1⟩
set_option maxRecDepth 100000 in
theorem open_bucket {H : Type} {enc : TypeId × Value → H} {W : World} {r : Reach} {b0 : Nat} {v : Value} {d : DataW H} {p : List MemPlace} (hv : Value.okWide Try.prog W r b0 74 v) (h : DataW.Trod enc Try.prog W 0 (fun _ => true) true 74 v d p) :
    ∃ bn bd qn qd : Int, v = .agg #[.int .i64 bn, .int .i64 bd, .int .i64 qn, .int .i64 qd] := by
  obtain ⟨cs, rfl, hsz⟩ := okWide_struct Try.underlying74 hv
  have hs4 : cs.size = 4 := by first | exact hsz.trans cells74 | (rw [hsz]; exact cells74) | (rw [hsz]; kernel_rfl)
  obtain ⟨c0, c1, c2, c3, rfl⟩ := array4 hs4
  obtain ⟨fuel, hf⟩ := h
  obtain ⟨y0, y1, n, _, _, h0, h1⟩ := trod_struct2 Try.underlying74 hf
  have h0' : DataW.trod enc Try.prog W 0 (fun _ => true) true n 72 [c0, c1] = some y0 := by simpa [Value.cells, cells72] using h0
  have h1' : DataW.trod enc Try.prog W 0 (fun _ => true) true n 72 [c2, c3] = some y1 := by simpa [Value.cells, cells72] using h1
  obtain ⟨bn, bd, rfl, rfl⟩ := open_frac h0'
  obtain ⟨qn, qd, rfl, rfl⟩ := open_frac h1'
  exact ⟨bn, bd, qn, qd, rfl⟩

/-! ### THE ROW's STEP: WRITTEN OUT: LEAVE IT -/
set_option maxRecDepth 100000 in
theorem lifted (os : Os) (started : os.Started) (H : Type) (enc : TypeId × Value → H) :
    ReturnsInHanded {} Try.checked os 10 .any (Rows.bucketExcessSpec.pre6 enc Try.prog Try.f10 Rows.bucketExcessRow.domain false) (Rows.bucketExcessSpec.post enc Try.prog Try.f10 false true false false) := by
  refine returnsInHanded_of_change (C := Try.checked) own started (by kernel_rfl) Try.func10
    (ChangeSpec.witness6 (enc := enc) (C := Try.checked) false ⟨#[], #[.agg #[.int .i64 0, .int .i64 0, .int .i64 0, .int .i64 0], .slice none 0 0, .slice none 0 0], []⟩ 8 (by kernel_rfl) (by kernel_rfl) (by kernel_rfl) (by kernel_rfl)) ?_
  intro W base args ds gs before hval0 hW hcnd _
  have hval : ∀ (j : Nat) t v, Try.f10.params[j]? = some t → args[j]? = some v → Value.okWide Try.prog W .any base t v := hval0
  have hW' := hW
  obtain ⟨p, q, hA0, hV, rfl, hfz, hnd⟩ := hW
  have hA : DataW.TrodAll enc Try.prog W 0 (fun _ => true) true Try.f10.params.toList args.toList ds p := hA0
  rw [Try.params10] at hA hval
  obtain ⟨v0, vs0, d0, ds0, p0, q0, hargs, rfl, rfl, h0, r0⟩ := trodAll_cons hA
  obtain ⟨v1, vs1, d1, ds1, p1, q1, rfl, rfl, rfl, h1, r1⟩ := trodAll_cons r0
  obtain ⟨v3, vs3, d3, ds3, p3, q3, rfl, rfl, rfl, h3, r3⟩ := trodAll_cons r1
  obtain ⟨rfl, rfl, rfl⟩ := trodAll_nil r3
  obtain rfl : args = #[v0, v1, v3] := by cases args; simp_all
  obtain ⟨rfl, rfl⟩ := trodVars_none hV
  have k0 := h0
  have ltq0 : ∀ x ∈ p0, x.block < W.heap.size := by obtain ⟨m, hm⟩ := h0; exact DataW.trod_lt m _ _ _ hm
  have k1 := h1
  have ltq1 : ∀ x ∈ p1, x.block < W.heap.size := by obtain ⟨m, hm⟩ := h1; exact DataW.trod_lt m _ _ _ hm
  obtain ⟨bn, bd, qn, qd, rfl⟩ := open_bucket (hval 0 74 v0 rfl rfl) h0
  obtain ⟨a9, n9, c9, rfl⟩ := okWide_slice Try.underlying22 (hval 1 22 v1 rfl rfl)
  obtain ⟨aR, nR, cR, zR, eR, hR⟩ : ∃ (a : Option Addr) (n cap : Nat) (zs : List Int), Value.slice a9 n9 c9 = .slice a n cap ∧ (n ≤ 800 → RowZ W a n cap zs) := by
    obtain ⟨fuel, hf⟩ := h1
    exact row_in (by simpa [Value.cells] using hf)
  cases eR
  obtain ⟨a3, len3, cap3, rfl⟩ := okWide_slice Try.underlying22 (hval 2 22 v3 rfl rfl)
  have k3 := h3
  have ltq3 : ∀ x ∈ p3, x.block < W.heap.size := by obtain ⟨m, hm⟩ := k3; exact DataW.trod_lt m _ _ _ hm
  obtain ⟨z3, w3⟩ : ∃ zs, IsRow .i64 W a3 len3 cap3 zs := by
    obtain ⟨fuel, hf⟩ := h3
    rcases open_ints Try.underlying22 Try.underlying3 (by kernel_rfl) hf with ⟨hcs, _⟩ | ⟨x, l, c, zs, hcs, _, hl, hm, hz, _, hcell, hwz⟩
    · simp [Value.cells] at hcs
      obtain ⟨rfl, rfl, rfl⟩ := hcs
      exact ⟨[], .inl ⟨rfl, rfl, rfl, rfl⟩⟩
    · simp [Value.cells] at hcs
      obtain ⟨rfl, rfl, rfl⟩ := hcs
      exact ⟨zs, .inr ⟨_, rfl, hl, hm, by simpa using hz, hcell, hwz⟩⟩
  clear hA0 hval0
  refine (bucketExcess_walk W bn bd qn qd a9 n9 c9 zR hR a3 len3 cap3 (rowAt_of w3)).mono fun e W' ⟨he, bel⟩ => ?_
  subst he
  exact ⟨_, rfl, _, _, _, [], _, [], hW', trodAll_mk1 (shut_bool Try.underlying4 _), (trodAll_cons_mk (Below.trod laidOut (by kernel_rfl) (of_decide_eq_true (by kernel_rfl)) k0 bel ltq0) (trodAll_cons_mk (Below.trod laidOut (by kernel_rfl) (of_decide_eq_true (by kernel_rfl)) k1 bel ltq1) (trodAll_cons_mk (Below.trod laidOut (by kernel_rfl) (of_decide_eq_true (by kernel_rfl)) k3 bel ltq3) trodAll_mk0))), rfl, bel.frame _, fun h => by cases h⟩

theorem fact1 : Try.pinned.checked.prog.funcNamed Rows.bucketExcessRow.func = some 10 := by kernel_rfl
theorem fact2a : Try.pinned.checked.prog.mayEnter = true := by kernel_rfl
theorem fact2b : (Rows.bucketExcessRow.lifted == Try.pinned.checked.prog.liftsFinal) = true := by kernel_rfl
theorem fact2c : (Try.pinned.checked.prog.make == some Rows.bucketExcessRow.make) = true := by kernel_rfl
theorem fact2 : joinedFacts Try.pinned.checked.prog 10 Try.f10 Rows.bucketExcessSpec Rows.bucketExcessRow = true := by
  unfold joinedFacts
  rw [fact2a, fact2b, fact2c]
  kernel_rfl
theorem fact3 : Func.isInstance Try.pinned.checked.prog Try.f10 Rows.bucketExcessRow.origin Rows.bucketExcessRow.targs := of_decide_eq_true (by kernel_rfl)
theorem fact4 : Func.isWrapper Try.pinned.checked.prog Try.f10 Rows.bucketExcessRow.wrapper Rows.bucketExcessRow.mainSum := by unfold Func.isWrapper; first | (rw [if_pos (by decide +kernel)]; kernel_rfl) | (rw [if_neg (by decide +kernel)]; exact ⟨rfl, rfl⟩)
theorem over : Rows.bucketExcessRow.holds Try.pinned (OpenSpec.ofChange Rows.bucketExcessSpec) :=
  OpenClaim.holds_of_wide 10 Try.f10 rfl rfl rfl rfl rfl rfl rfl ⟨rfl, rfl, rfl, rfl, rfl⟩ rfl rfl rfl rfl rfl fact1 Try.func10 fact2 fact3 fact4
    (fun os started H enc _ => lifted os started H enc)

/-- ████ THE STATEMENT ████ -/
theorem proved : Rows.BucketExcessSaid := over
#print axioms proved
end Go.Proofs.Ytombgfpheiopgaa.bucketExcess
