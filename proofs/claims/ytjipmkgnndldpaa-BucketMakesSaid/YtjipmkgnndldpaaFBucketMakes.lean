/- The statement is proved: for every input the law returns true, and its arguments read as before. No condition. -/
import Derived.Test.YtjipmkgnndldpaaRows
import Derived.WalkKit
import Derived.ProofKit
import Derived.OpenShut
import Derived.ShutString
import Derived.ChangeOld
import Derived.Below
import Derived.Lib.SmallJoins
import Derived.Deep.Slices
import Derived.Deep.Strs
import Derived.Test.YtjipmkgnndldpaaFBucketMakesW
namespace Go.Proofs.Ytjipmkgnndldpaa.bucketMakes
open Go.ChangeShapes Go.WideShapes Go.ChangeAt Go.RowKit Go.Joins
open Go.ChangeMaps (open_string shut_string)
set_option linter.unusedVariables false

theorem own : ownKnob Try.prog.godebug = none := by kernel_rfl
theorem laidOut : laidOutB Try.prog = true := by kernel_rfl

/-- WHAT THE WALK IS TOLD OF A SLICE OF INTEGERS THAT CAME IN: it is nil; or it leads to a row of 'cap' cells, the numbers 'zs' (the first 'len' are its elements, the rest its spare room), each fitting its kind. -/
def IsRow (k : IntKind) (w : World) (a : Option Addr) (len cap : Nat) (zs : List Int) : Prop :=
  (a = none ∧ len = 0 ∧ cap = 0 ∧ zs = []) ∨
  ∃ x, a = some x ∧ len ≤ cap ∧ cap ≤ maxLen ∧ zs.length = cap ∧ (∀ i, i < zs.length → w.cell? (x.add i) = some (.int k (zs.getD i 0))) ∧ ∀ n ∈ zs, (Lit.int k n).wf = true

theorem rowAt_of {w : World} {a : Option Addr} {len cap : Nat} {zs : List Int} (h : IsRow .i64 w a len cap zs) : RowAt w a len cap := by
  rcases h with ⟨h1, h2, h3, _⟩ | ⟨x, h1, h2, h3, hz, hc, hw⟩
  · exact .inl ⟨h1, h2, h3⟩
  · refine .inr ⟨x, h1, h2, h3, fun i hi => ⟨zs.getD i 0, hc i (by omega), ?_⟩⟩
    have hi' : i < zs.length := by omega
    have hmem : zs.getD i 0 ∈ zs := by simp [List.getD, hi']
    have hw' := hw _ hmem
    have e1 : IntKind.i64.min = -9223372036854775808 := rfl
    have e2 : IntKind.i64.max = 9223372036854775807 := rfl
    simp [Lit.wf, e1, e2] at hw'
    exact hw'
theorem int_of {x : Int} (h : (Lit.int .i64 x).wf = true) : In64 x := by
  have e1 : IntKind.i64.min = -9223372036854775808 := rfl
  have e2 : IntKind.i64.max = 9223372036854775807 := rfl
  simp [Lit.wf, e1, e2] at h
  exact h

theorem cells46 : Try.prog.cellsOf 46 = 4 := by kernel_rfl
theorem cells23 : Try.prog.cellsOf 23 = 2 := by kernel_rfl
set_option maxRecDepth 100000 in
theorem open_frac {H : Type} {enc : TypeId × Value → H} {W : World} {m : Nat} {c0 c1 : Value} {y : DataW H × List MemPlace} (h : DataW.trod enc Try.prog W 0 (fun _ => true) true m 23 [c0, c1] = some y) :
    ∃ x z : Int, c0 = .int .i64 x ∧ c1 = .int .i64 z := by
  obtain ⟨y0, y1, n, _, _, h0, h1⟩ := trod_struct2 Try.underlying23 h
  have c3 : Try.prog.cellsOf 3 = 1 := by kernel_rfl
  have h0' : DataW.trod enc Try.prog W 0 (fun _ => true) true n 3 [c0] = some y0 := by simpa [c3] using h0
  have h1' : DataW.trod enc Try.prog W 0 (fun _ => true) true n 3 [c1] = some y1 := by simpa [c3] using h1
  obtain ⟨x, e0, _, _⟩ := DataW.trod_int Try.underlying3 h0'
  obtain ⟨z, e1, _, _⟩ := DataW.trod_int Try.underlying3 h1'
  simp at e0 e1
  exact ⟨x, z, e0, e1⟩
set_option maxRecDepth 100000 in
theorem open_four {H : Type} {enc : TypeId × Value → H} {W : World} {m : Nat} {cs : List Value} {y : DataW H × List MemPlace} (hl : cs.length = 4) (h : DataW.trod enc Try.prog W 0 (fun _ => true) true m 46 cs = some y) :
    ∃ x0 x1 x2 x3 : Int, cs = [.int .i64 x0, .int .i64 x1, .int .i64 x2, .int .i64 x3] := by
  obtain ⟨c0, c1, c2, c3, rfl⟩ : ∃ c0 c1 c2 c3 : Value, cs = [c0, c1, c2, c3] := by
    match cs, hl with
    | [c0, c1, c2, c3], _ => exact ⟨c0, c1, c2, c3, rfl⟩
  obtain ⟨y0, y1, n, _, _, h0, h1⟩ := trod_struct2 Try.underlying46 h
  have h0' : DataW.trod enc Try.prog W 0 (fun _ => true) true n 23 [c0, c1] = some y0 := by simpa [Value.cells, cells23] using h0
  have h1' : DataW.trod enc Try.prog W 0 (fun _ => true) true n 23 [c2, c3] = some y1 := by simpa [Value.cells, cells23] using h1
  obtain ⟨bn, bd, rfl, rfl⟩ := open_frac h0'
  obtain ⟨qn, qd, rfl, rfl⟩ := open_frac h1'
  exact ⟨bn, bd, qn, qd, rfl⟩
set_option maxRecDepth 100000 in
theorem open_pace {H : Type} {enc : TypeId × Value → H} {W : World} {r : Reach} {b0 : Nat} {v : Value} {d : DataW H} {p : List MemPlace} (hv : Value.okWide Try.prog W r b0 46 v) (h : DataW.Trod enc Try.prog W 0 (fun _ => true) true 46 v d p) :
    ∃ bn bd qn qd : Int, v = .agg #[.int .i64 bn, .int .i64 bd, .int .i64 qn, .int .i64 qd] := by
  obtain ⟨cs, rfl, hsz⟩ := okWide_struct Try.underlying46 hv
  have hs4 : cs.size = 4 := by first | exact hsz.trans cells46 | (rw [hsz]; exact cells46) | (rw [hsz]; kernel_rfl)
  obtain ⟨c0, c1, c2, c3, rfl⟩ := array4 hs4
  obtain ⟨fuel, hf⟩ := h
  obtain ⟨x0, x1, x2, x3, e⟩ := open_four (cs := [c0, c1, c2, c3]) rfl (by simpa [Value.cells] using hf)
  simp only [List.cons.injEq, and_true] at e
  obtain ⟨rfl, rfl, rfl, rfl⟩ := e
  exact ⟨x0, x1, x2, x3, rfl⟩
set_option maxRecDepth 100000 in
theorem open_stair {H : Type} {enc : TypeId × Value → H} {W : World} {r : Reach} {b0 : Nat} {v : Value} {d : DataW H} {p : List MemPlace} (hv : Value.okWide Try.prog W r b0 100 v) (h : DataW.Trod enc Try.prog W 0 (fun _ => true) true 100 v d p) :
    ∃ x y z : Int, v = .agg #[.int .i64 x, .int .i64 y, .int .i64 z] := by
  have cells100 : Try.prog.cellsOf 100 = 3 := by kernel_rfl
  have c3 : Try.prog.cellsOf 3 = 1 := by kernel_rfl
  obtain ⟨cs, rfl, hsz⟩ := okWide_struct Try.underlying100 hv
  have hs3 : cs.size = 3 := by first | exact hsz.trans cells100 | (rw [hsz]; exact cells100) | (rw [hsz]; kernel_rfl)
  obtain ⟨c0, c1, c2, rfl⟩ := array3 hs3
  obtain ⟨fuel, hf⟩ := h
  obtain ⟨y0, y1, y2, n, _, _, h0, h1, h2⟩ := Go.Deep.trod_struct3 Try.underlying100 hf
  have h0' : DataW.trod enc Try.prog W 0 (fun _ => true) true n 3 [c0] = some y0 := by simpa [Value.cells, c3] using h0
  have h1' : DataW.trod enc Try.prog W 0 (fun _ => true) true n 3 [c1] = some y1 := by simpa [Value.cells, c3] using h1
  have h2' : DataW.trod enc Try.prog W 0 (fun _ => true) true n 3 [c2] = some y2 := by simpa [Value.cells, c3] using h2
  obtain ⟨x, e0, _, _⟩ := DataW.trod_int Try.underlying3 h0'
  obtain ⟨y, e1, _, _⟩ := DataW.trod_int Try.underlying3 h1'
  obtain ⟨z, e2, _, _⟩ := DataW.trod_int Try.underlying3 h2'
  simp at e0 e1 e2
  subst e0; subst e1; subst e2
  exact ⟨x, y, z, rfl⟩
theorem paces_in {H : Type} {enc : TypeId × Value → H} {W : World} {m : Nat} {c0 : Value} {y : DataW H × List MemPlace} (h : DataW.trod enc Try.prog W 0 (fun _ => true) true m 49 [c0] = some y) :
    ∃ (a : Option Addr) (n cap : Nat), c0 = .slice a n cap ∧ (n ≤ 30 → ∀ b, W.heap.size ≤ b → IsB b W a n cap) := by
  rcases Go.Deep.open_slice Try.underlying49 h with ⟨hcs, _⟩ | ⟨a, len, cap, m', k, D, Pl, hcs, _, hl, hm, hmm, _, hel⟩
  · simp at hcs
    exact ⟨none, 0, 0, hcs, fun _ _ _ => .inl rfl⟩
  · simp at hcs
    refine ⟨some a, len, cap, hcs, fun hn b hb => ?_⟩
    by_cases h0 : len = 0
    · exact .inl h0
    have hm2 : m' = cap := by simpa using hmm
    have each : ∀ i, i < len → ∃ x : Bkt, W.cell? (a.add (i * 4)) = some (.int .i64 x.bn) ∧ W.cell? (a.add (i * 4 + 1)) = some (.int .i64 x.bd) ∧ W.cell? (a.add (i * 4 + 2)) = some (.int .i64 x.rn) ∧ W.cell? (a.add (i * 4 + 3)) = some (.int .i64 x.rd) := fun i hi => by
      obtain ⟨cs', hc, ht⟩ := hel i (by omega)
      rw [cells46] at hc
      obtain ⟨_, hlen, hg⟩ := World.cells?_some hc
      obtain ⟨x0, x1, x2, x3, rfl⟩ := open_four hlen ht
      have g0 := hg 0 (by omega)
      have g1 := hg 1 (by omega)
      have g2 := hg 2 (by omega)
      have g3 := hg 3 (by omega)
      rw [Go.Deep.add_add] at g0 g1 g2 g3
      exact ⟨⟨x0, x1, x2, x3⟩, by simpa using g0, by simpa using g1, by simpa using g2, by simpa using g3⟩
    obtain ⟨f, hf⟩ := Go.Deep.choose_lt each
    obtain ⟨B, off, spot⟩ := a
    have hs : spot = none := by simpa [Addr.add] using World.cell?_spot (hf 0 (by omega)).1
    subst hs
    have hB : B < W.heap.size := by
      have := lt_of_cell (hf 0 (by omega)).1
      rwa [block_add] at this
    refine .inr ⟨B, off, (List.range len).map f, rfl, by simp, by omega, hl, by omega, fun i x hx => ?_⟩
    simp only [List.getElem?_map, Option.map_eq_some_iff] at hx
    obtain ⟨j, hj, rfl⟩ := hx
    obtain ⟨hi, rfl⟩ : i < len ∧ j = i := by
      rw [List.getElem?_eq_some_iff] at hj
      obtain ⟨h1, h2⟩ := hj
      simp at h1 h2
      exact ⟨h1, h2.symm⟩
    obtain ⟨g0, g1, g2, g3⟩ := hf j hi
    rw [add_plain] at g0 g1 g2 g3
    exact ⟨g0, by rwa [Nat.add_assoc], by rwa [Nat.add_assoc], by rwa [Nat.add_assoc]⟩

/-! ### THE ROW's STEP: WRITTEN OUT: LEAVE IT -/
set_option maxRecDepth 100000 in
theorem lifted (os : Os) (started : os.Started) (H : Type) (enc : TypeId × Value → H) :
    ReturnsInHanded {} Try.checked os 14 .any (Rows.bucketMakesSpec.pre6 enc Try.prog Try.f14 Rows.bucketMakesRow.domain false) (Rows.bucketMakesSpec.post enc Try.prog Try.f14 false true false false) := by
  refine returnsInHanded_of_change (C := Try.checked) own started (by kernel_rfl) Try.func14
    (ChangeSpec.witness6 (enc := enc) (C := Try.checked) false ⟨#[], #[.agg #[.int .i64 0, .int .i64 0, .int .i64 0, .int .i64 0], .agg #[.int .i64 0, .int .i64 0, .int .i64 0], .slice none 0 0, .slice none 0 0], []⟩ 8 (by kernel_rfl) (by kernel_rfl) (by kernel_rfl) (by kernel_rfl)) ?_
  intro W base args ds gs before hval0 hW hcnd _
  have hval : ∀ (j : Nat) t v, Try.f14.params[j]? = some t → args[j]? = some v → Value.okWide Try.prog W .any base t v := hval0
  have hW' := hW
  obtain ⟨p, q, hA0, hV, rfl, hfz, hnd⟩ := hW
  have hA : DataW.TrodAll enc Try.prog W 0 (fun _ => true) true Try.f14.params.toList args.toList ds p := hA0
  rw [Try.params14] at hA hval
  obtain ⟨v0, vs0, d0, ds0, p0, q0, hargs, rfl, rfl, h0, r0⟩ := trodAll_cons hA
  obtain ⟨v1, vs1, d1, ds1, p1, q1, rfl, rfl, rfl, h1, r1⟩ := trodAll_cons r0
  obtain ⟨v2, vs2, d2, ds2, p2, q2, rfl, rfl, rfl, h2, r2⟩ := trodAll_cons r1
  obtain ⟨v3, vs3, d3, ds3, p3, q3, rfl, rfl, rfl, h3, r3⟩ := trodAll_cons r2
  obtain ⟨rfl, rfl, rfl⟩ := trodAll_nil r3
  obtain rfl : args = #[v0, v1, v2, v3] := by cases args; simp_all
  obtain ⟨rfl, rfl⟩ := trodVars_none hV
  have k0 := h0
  have ltq0 : ∀ x ∈ p0, x.block < W.heap.size := by obtain ⟨m, hm⟩ := h0; exact DataW.trod_lt m _ _ _ hm
  have k1 := h1
  have ltq1 : ∀ x ∈ p1, x.block < W.heap.size := by obtain ⟨m, hm⟩ := h1; exact DataW.trod_lt m _ _ _ hm
  have k2 := h2
  have ltq2 : ∀ x ∈ p2, x.block < W.heap.size := by obtain ⟨m, hm⟩ := h2; exact DataW.trod_lt m _ _ _ hm
  obtain ⟨bn, bd, qn, qd, rfl⟩ := open_pace (hval 0 46 v0 rfl rfl) h0
  obtain ⟨t1, t2, t3, rfl⟩ := open_stair (hval 1 100 v1 rfl rfl) h1
  obtain ⟨a9, n9, c9, rfl⟩ := okWide_slice Try.underlying49 (hval 2 49 v2 rfl rfl)
  have hR : n9 ≤ 30 → ∀ b, W.heap.size ≤ b → IsB b W a9 n9 c9 := by
    obtain ⟨fuel, hf⟩ := h2
    obtain ⟨aa, nn, cc, e, hr⟩ := paces_in (by simpa [Value.cells] using hf)
    cases e
    exact hr
  obtain ⟨a3, len3, cap3, rfl⟩ := okWide_slice Try.underlying27 (hval 3 27 v3 rfl rfl)
  have k3 := h3
  have ltq3 : ∀ x ∈ p3, x.block < W.heap.size := by obtain ⟨m, hm⟩ := k3; exact DataW.trod_lt m _ _ _ hm
  obtain ⟨z3, w3⟩ : ∃ zs, IsRow .i64 W a3 len3 cap3 zs := by
    obtain ⟨fuel, hf⟩ := h3
    rcases open_ints Try.underlying27 Try.underlying3 (by kernel_rfl) hf with ⟨hcs, _⟩ | ⟨x, l, c, zs, hcs, _, hl, hm, hz, _, hcell, hwz⟩
    · simp [Value.cells] at hcs
      obtain ⟨rfl, rfl, rfl⟩ := hcs
      exact ⟨[], .inl ⟨rfl, rfl, rfl, rfl⟩⟩
    · simp [Value.cells] at hcs
      obtain ⟨rfl, rfl, rfl⟩ := hcs
      exact ⟨zs, .inr ⟨_, rfl, hl, hm, by simpa using hz, hcell, hwz⟩⟩
  clear hA0 hval0
  refine (bucketMakes_walk W bn bd qn qd t1 t2 t3 a9 n9 c9 hR a3 len3 cap3 (rowAt_of w3)).mono fun e W' ⟨he, bel⟩ => ?_
  subst he
  exact ⟨_, rfl, _, _, _, [], _, [], hW', trodAll_mk1 (shut_bool Try.underlying4 _), (trodAll_cons_mk (Below.trod laidOut (by kernel_rfl) (of_decide_eq_true (by kernel_rfl)) k0 bel ltq0) (trodAll_cons_mk (Below.trod laidOut (by kernel_rfl) (of_decide_eq_true (by kernel_rfl)) k1 bel ltq1) (trodAll_cons_mk (Below.trod laidOut (by kernel_rfl) (of_decide_eq_true (by kernel_rfl)) k2 bel ltq2) (trodAll_cons_mk (Below.trod laidOut (by kernel_rfl) (of_decide_eq_true (by kernel_rfl)) k3 bel ltq3) trodAll_mk0)))), rfl, bel.frame _, fun h => by cases h⟩

theorem fact1 : Try.pinned.checked.prog.funcNamed Rows.bucketMakesRow.func = some 14 := by kernel_rfl
theorem fact2a : Try.pinned.checked.prog.mayEnter = true := by kernel_rfl
theorem fact2b : (Rows.bucketMakesRow.lifted == Try.pinned.checked.prog.liftsFinal) = true := by kernel_rfl
theorem fact2c : (Try.pinned.checked.prog.make == some Rows.bucketMakesRow.make) = true := by kernel_rfl
theorem fact2 : joinedFacts Try.pinned.checked.prog 14 Try.f14 Rows.bucketMakesSpec Rows.bucketMakesRow = true := by
  unfold joinedFacts
  rw [fact2a, fact2b, fact2c]
  kernel_rfl
theorem fact3 : Func.isInstance Try.pinned.checked.prog Try.f14 Rows.bucketMakesRow.origin Rows.bucketMakesRow.targs := of_decide_eq_true (by kernel_rfl)
theorem fact4 : Func.isWrapper Try.pinned.checked.prog Try.f14 Rows.bucketMakesRow.wrapper Rows.bucketMakesRow.mainSum := by unfold Func.isWrapper; first | (rw [if_pos (by decide +kernel)]; kernel_rfl) | (rw [if_neg (by decide +kernel)]; exact ⟨rfl, rfl⟩)
theorem over : Rows.bucketMakesRow.holds Try.pinned (OpenSpec.ofChange Rows.bucketMakesSpec) :=
  OpenClaim.holds_of_wide 14 Try.f14 rfl rfl rfl rfl rfl rfl rfl ⟨rfl, rfl, rfl, rfl, rfl⟩ rfl rfl rfl rfl rfl fact1 Try.func14 fact2 fact3 fact4
    (fun os started H enc _ => lifted os started H enc)

/-- ████ THE STATEMENT ████ -/
theorem proved : Rows.BucketMakesSaid := over
#print axioms proved
end Go.Proofs.Ytjipmkgnndldpaa.bucketMakes
