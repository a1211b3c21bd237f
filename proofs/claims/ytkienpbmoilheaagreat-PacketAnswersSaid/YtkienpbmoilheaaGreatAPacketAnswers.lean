/- The statement is proved: for every input the law returns true, and its arguments read as before. No condition. -/
import Derived.Test.YtkienpbmoilheaaGreatRows
import Derived.WalkKit
import Derived.ProofKit
import Derived.OpenShut
import Derived.ShutString
import Derived.ChangeOld
import Derived.Below
import Derived.Lib.SmallJoins
import Derived.Deep.Slices
import Derived.Deep.Strs
import Derived.Test.YtkienpbmoilheaaGreatAPacketAnswersW
namespace Go.Proofs.YtkienpbmoilheaaGreat.packetAnswers
open Go.ChangeShapes Go.WideShapes Go.ChangeAt Go.RowKit Go.Joins
open Go.ChangeMaps (open_string shut_string)
set_option linter.unusedVariables false

theorem own : ownKnob Tryz.prog.godebug = none := by kernel_rfl
theorem laidOut : laidOutB Tryz.prog = true := by kernel_rfl

/-- WHAT THE WALK IS TOLD OF A SLICE OF INTEGERS THAT CAME IN: it is nil; or it leads to a row of 'cap' cells, the numbers 'zs' (the first 'len' are its elements, the rest its spare room), each fitting its kind. -/
def IsRow (k : IntKind) (w : World) (a : Option Addr) (len cap : Nat) (zs : List Int) : Prop :=
  (a = none ∧ len = 0 ∧ cap = 0 ∧ zs = []) ∨
  ∃ x, a = some x ∧ len ≤ cap ∧ cap ≤ maxLen ∧ zs.length = cap ∧ (∀ i, i < zs.length → w.cell? (x.add i) = some (.int k (zs.getD i 0))) ∧ ∀ n ∈ zs, (Lit.int k n).wf = true

theorem rowAt_of {w : World} {a : Option Addr} {len cap : Nat} {zs : List Int} (h : IsRow .i64 w a len cap zs) : RowAt w a len cap := by
  rcases h with ⟨h1, h2, h3, _⟩ | ⟨x, h1, h2, h3, hz, hc, hw⟩
  · exact .inl ⟨h1, h2, h3⟩
  · refine .inr ⟨x, h1, h2, h3, fun i hi => ⟨zs.getD i 0, hc i (by omega), ?_⟩⟩
    have hi' : i < zs.length := by omega
    have hmem : zs.getD i 0 ∈ zs := by simp [List.getD, hi']
    have hw' := hw _ hmem
    have e1 : IntKind.i64.min = -9223372036854775808 := rfl
    have e2 : IntKind.i64.max = 9223372036854775807 := rfl
    simp [Lit.wf, e1, e2] at hw'
    exact hw'
theorem int_of {x : Int} (h : (Lit.int .i64 x).wf = true) : In64 x := by
  have e1 : IntKind.i64.min = -9223372036854775808 := rfl
  have e2 : IntKind.i64.max = 9223372036854775807 := rfl
  simp [Lit.wf, e1, e2] at h
  exact h

theorem cells24 : Tryz.prog.cellsOf 24 = 3 := by kernel_rfl
theorem row_in {H : Type} {enc : TypeId × Value → H} {W : World} {m : Nat} {c0 : Value} {y : DataW H × List MemPlace} (h : DataW.trod enc Tryz.prog W 0 (fun _ => true) true m 22 [c0] = some y) :
    ∃ (a : Option Addr) (n cap : Nat) (zs : List Int), c0 = .slice a n cap ∧ (n ≤ 800 → RowZ W a n cap zs) := by
  rcases open_ints Tryz.underlying22 Tryz.underlying3 (by kernel_rfl) h with ⟨hcs, _⟩ | ⟨x, l, c, zs, hcs, _, hl, hm, hz, _, hcell, hwz⟩
  · simp at hcs
    exact ⟨none, 0, 0, [], hcs, fun _ => rowZ_nil W⟩
  · simp at hcs
    have hz' : zs.length = c := by simpa using hz
    refine ⟨some x, l, c, zs.take l, hcs, fun hn => ⟨by rw [List.length_take]; omega, hl, by omega, hm, fun i hi => ⟨x, rfl, ?_⟩, fun i hi => ?_⟩⟩
    · rw [getD_take hi]; exact hcell i (by omega)
    · rw [getD_take hi]
      have hi' : i < zs.length := by omega
      exact int_of (hwz _ (by simp [List.getD, hi']))

theorem cellsP : Tryz.prog.cellsOf 54 = 3 := by kernel_rfl
theorem cellsI : Tryz.prog.cellsOf 3 = 1 := by kernel_rfl
set_option maxRecDepth 100000 in
theorem open_pk {H : Type} {enc : TypeId × Value → H} {W : World} {m : Nat} {cs : List Value} {y : DataW H × List MemPlace} (hl : cs.length = 3) (h : DataW.trod enc Tryz.prog W 0 (fun _ => true) true m 54 cs = some y) :
    ∃ x : Pk, cs = [.int .i64 x.f, .int .i64 x.t, .int .i64 x.s] ∧ Pk64 x := by
  obtain ⟨c0, c1, c2, rfl⟩ : ∃ c0 c1 c2 : Value, cs = [c0, c1, c2] := by
    match cs, hl with
    | [c0, c1, c2], _ => exact ⟨c0, c1, c2, rfl⟩
  obtain ⟨y0, y1, y2, n, _, _, h0, h1, h2⟩ := Go.Deep.trod_struct3 Tryz.underlying54 h
  have h0' : DataW.trod enc Tryz.prog W 0 (fun _ => true) true n 3 [c0] = some y0 := by simpa [cellsI] using h0
  have h1' : DataW.trod enc Tryz.prog W 0 (fun _ => true) true n 3 [c1] = some y1 := by simpa [cellsI] using h1
  have h2' : DataW.trod enc Tryz.prog W 0 (fun _ => true) true n 3 [c2] = some y2 := by simpa [cellsI] using h2
  obtain ⟨x0, e0, _, w0⟩ := DataW.trod_int Tryz.underlying3 h0'
  obtain ⟨x1, e1, _, w1⟩ := DataW.trod_int Tryz.underlying3 h1'
  obtain ⟨x2, e2, _, w2⟩ := DataW.trod_int Tryz.underlying3 h2'
  simp at e0 e1 e2
  exact ⟨⟨x0, x1, x2⟩, by rw [e0, e1, e2], int_of w0, int_of w1, int_of w2⟩
set_option maxRecDepth 100000 in
theorem pks_in {H : Type} {enc : TypeId × Value → H} {W : World} {m : Nat} {c0 : Value} {y : DataW H × List MemPlace} (h : DataW.trod enc Tryz.prog W 0 (fun _ => true) true m 25 [c0] = some y) :
    ∃ (a : Option Addr) (n cap : Nat) (l : List Pk), c0 = .slice a n cap ∧ (n ≤ 100 → PkR W a n cap l) ∧ ∀ z, a = some z → 1 ≤ n → z.block < W.heap.size := by
  rcases Go.Deep.open_slice Tryz.underlying25 h with ⟨hcs, _⟩ | ⟨a, len, cap, m', k, D, Pl, hcs, _, hl, hm, hmm, _, hel⟩
  · simp at hcs
    exact ⟨none, 0, 0, [], hcs, fun _ => pkR_nil W, fun z hz => by cases hz⟩
  · simp at hcs
    have hm2 : m' = cap := by simpa using hmm
    have each : ∀ i, i < len → ∃ x : Pk, (W.cell? (a.add (i * 3)) = some (.int .i64 x.f) ∧ W.cell? (a.add (i * 3 + 1)) = some (.int .i64 x.t) ∧ W.cell? (a.add (i * 3 + 2)) = some (.int .i64 x.s)) ∧ Pk64 x := fun i hi => by
      obtain ⟨cs', hc, ht⟩ := hel i (by omega)
      rw [cellsP] at hc
      obtain ⟨_, hlen, hg⟩ := World.cells?_some hc
      obtain ⟨x, rfl, hx⟩ := open_pk hlen ht
      have g0 := hg 0 (by omega)
      have g1 := hg 1 (by omega)
      have g2 := hg 2 (by omega)
      rw [Go.Deep.add_add] at g0 g1 g2
      exact ⟨x, ⟨by simpa using g0, by simpa using g1, by simpa using g2⟩, hx⟩
    by_cases h0 : len = 0
    · subst h0
      exact ⟨some a, 0, cap, [], hcs, fun _ => ⟨rfl, Nat.zero_le _, by omega, hm, .inl ⟨rfl, fun _ _ => trivial⟩, fun q hq => by cases hq⟩, fun z hz hn => by omega⟩
    obtain ⟨f, hf⟩ := Go.Deep.choose_lt each
    obtain ⟨B, off, spot⟩ := a
    have hs : spot = none := by simpa [Addr.add] using World.cell?_spot (hf 0 (by omega)).1.1
    subst hs
    have hB : B < W.heap.size := by
      have := lt_of_cell (hf 0 (by omega)).1.1
      rwa [add_block] at this
    refine ⟨some ⟨B, off, none⟩, len, cap, (List.range len).map f, hcs, fun hn => ⟨by simp, hl, by omega, hm, .inr ⟨B, off, rfl, fun i x hx => ?_⟩, fun q hq => ?_⟩, fun z hz _ => by cases hz; exact hB⟩
    · simp only [List.getElem?_map, Option.map_eq_some_iff] at hx
      obtain ⟨j, hj, rfl⟩ := hx
      obtain ⟨hi, rfl⟩ : i < len ∧ j = i := by
        rw [List.getElem?_eq_some_iff] at hj
        obtain ⟨h1, h2⟩ := hj
        simp at h1 h2
        exact ⟨h1, h2.symm⟩
      obtain ⟨⟨g0, g1, g2⟩, _⟩ := hf j hi
      rw [add_plain] at g0 g1 g2
      exact ⟨g0, by rwa [Nat.add_assoc], by rwa [Nat.add_assoc]⟩
    · obtain ⟨j, hj, rfl⟩ := List.mem_map.1 hq
      exact (hf j (List.mem_range.1 hj)).2

/-! ### THE ROW's STEP: WRITTEN OUT: LEAVE IT -/
set_option maxRecDepth 100000 in
theorem lifted (os : Os) (started : os.Started) (H : Type) (enc : TypeId × Value → H) :
    ReturnsInHanded {} Tryz.checked os 3 .any (Rows.packetAnswersSpec.pre6 enc Tryz.prog Tryz.f3 Rows.packetAnswersRow.domain false) (Rows.packetAnswersSpec.post enc Tryz.prog Tryz.f3 false true false false) := by
  refine returnsInHanded_of_change (C := Tryz.checked) own started (by kernel_rfl) Tryz.func3
    (ChangeSpec.witness6 (enc := enc) (C := Tryz.checked) false ⟨#[], #[.agg #[.slice none 0 0, .int .i64 0, .int .i64 0], .agg #[.slice none 0 0, .int .i64 0, .int .i64 0], .slice none 0 0, .slice none 0 0, .int .i64 0, .slice none 0 0], []⟩ 8 (by kernel_rfl) (by kernel_rfl) (by kernel_rfl) (by kernel_rfl)) ?_
  intro W base args ds gs before hval0 hW hcnd _
  have hval : ∀ (j : Nat) t v, Tryz.f3.params[j]? = some t → args[j]? = some v → Value.okWide Tryz.prog W .any base t v := hval0
  have hW' := hW
  obtain ⟨p, q, hA0, hV, rfl, hfz, hnd⟩ := hW
  have hA : DataW.TrodAll enc Tryz.prog W 0 (fun _ => true) true Tryz.f3.params.toList args.toList ds p := hA0
  rw [Tryz.params3] at hA hval
  obtain ⟨v0, vs0, d0, ds0, p0, q0, hargs, rfl, rfl, h0, r0⟩ := trodAll_cons hA
  obtain ⟨v1, vs1, d1, ds1, p1, q1, rfl, rfl, rfl, h1, r1⟩ := trodAll_cons r0
  obtain ⟨v2, vs2, d2, ds2, p2, q2, rfl, rfl, rfl, h2, r2⟩ := trodAll_cons r1
  obtain ⟨v3, vs3, d3, ds3, p3, q3, rfl, rfl, rfl, h3, r3⟩ := trodAll_cons r2
  obtain ⟨v4, vs4, d4, ds4, p4, q4, rfl, rfl, rfl, h4, r4⟩ := trodAll_cons r3
  obtain ⟨v5, vs5, d5, ds5, p5, q5, rfl, rfl, rfl, h5, r5⟩ := trodAll_cons r4
  obtain ⟨rfl, rfl, rfl⟩ := trodAll_nil r5
  obtain rfl : args = #[v0, v1, v2, v3, v4, v5] := by cases args; simp_all
  obtain ⟨rfl, rfl⟩ := trodVars_none hV
  have k0 := h0
  have lt0 : ∀ x ∈ p0, x.block < W.heap.size := by obtain ⟨m, hm⟩ := k0; exact DataW.trod_lt m _ _ _ hm
  have k1 := h1
  have lt1 : ∀ x ∈ p1, x.block < W.heap.size := by obtain ⟨m, hm⟩ := k1; exact DataW.trod_lt m _ _ _ hm
  have k2 := h2
  have lt2 : ∀ x ∈ p2, x.block < W.heap.size := by obtain ⟨m, hm⟩ := k2; exact DataW.trod_lt m _ _ _ hm
  have k3 := h3
  have lt3' : ∀ x ∈ p3, x.block < W.heap.size := by obtain ⟨m, hm⟩ := k3; exact DataW.trod_lt m _ _ _ hm
  have k5 := h5
  have lt5 : ∀ x ∈ p5, x.block < W.heap.size := by obtain ⟨m, hm⟩ := k5; exact DataW.trod_lt m _ _ _ hm
  obtain ⟨cA, cB, cC, yA, yB, yC, mA, rfl, rfl, rfl, hyA, hyB, hyC⟩ := open_agg3 Tryz.underlying24 (by kernel_rfl) cells24 (hval 0 24 v0 rfl rfl) h0
  obtain ⟨aR, nR, cR, zR, rfl, hR⟩ := row_in hyA
  obtain ⟨pR, eB, _, wpR⟩ := DataW.trod_int Tryz.underlying3 hyB
  obtain ⟨iR, eC, _, wiR⟩ := DataW.trod_int Tryz.underlying3 hyC
  simp at eB eC
  subst eB eC
  obtain ⟨cA', cB', cC', yA', yB', yC', mA', rfl, rfl, rfl, hyA', hyB', hyC'⟩ := open_agg3 Tryz.underlying24 (by kernel_rfl) cells24 (hval 1 24 v1 rfl rfl) h1
  obtain ⟨aO, nO, cO, zO, rfl, hO⟩ := row_in hyA'
  obtain ⟨pO, eB', _, wpO⟩ := DataW.trod_int Tryz.underlying3 hyB'
  obtain ⟨iO, eC', _, wiO⟩ := DataW.trod_int Tryz.underlying3 hyC'
  simp at eB' eC'
  subst eB' eC'
  obtain ⟨aP, nP, cP, rfl⟩ := okWide_slice Tryz.underlying25 (hval 2 25 v2 rfl rfl)
  obtain ⟨lP, hP, fP⟩ : ∃ l, (nP ≤ 100 → PkR W aP nP cP l) ∧ ∀ z, aP = some z → 1 ≤ nP → z.block < W.heap.size := by
    obtain ⟨fuel, hf⟩ := h2
    obtain ⟨aa, nn, cc, l, e, hr, hz⟩ := pks_in (by simpa [Value.cells] using hf)
    cases e
    exact ⟨l, hr, hz⟩
  obtain ⟨aD, nD, cD, rfl⟩ := okWide_slice Tryz.underlying22 (hval 3 22 v3 rfl rfl)
  obtain ⟨zD, hD⟩ : ∃ zs, (nD ≤ 800 → RowZ W aD nD cD zs) := by
    obtain ⟨fuel, hf⟩ := h3
    obtain ⟨aa, nn, cc, zs, e, hr⟩ := row_in (by simpa [Value.cells] using hf)
    cases e
    exact ⟨zs, hr⟩
  obtain ⟨x4, rfl, rfl, rfl, w4⟩ := open_int Tryz.underlying3 (hval 4 3 v4 rfl rfl) h4
  obtain ⟨a5, len5, cap5, rfl⟩ := okWide_slice Tryz.underlying22 (hval 5 22 v5 rfl rfl)
  obtain ⟨z5, w5⟩ : ∃ zs, IsRow .i64 W a5 len5 cap5 zs := by
    obtain ⟨fuel, hf⟩ := h5
    rcases open_ints Tryz.underlying22 Tryz.underlying3 (by kernel_rfl) hf with ⟨hcs, _⟩ | ⟨x, l, c, zs, hcs, _, hl, hm, hz, _, hcell, hwz⟩
    · simp [Value.cells] at hcs
      obtain ⟨rfl, rfl, rfl⟩ := hcs
      exact ⟨[], .inl ⟨rfl, rfl, rfl, rfl⟩⟩
    · simp [Value.cells] at hcs
      obtain ⟨rfl, rfl, rfl⟩ := hcs
      exact ⟨zs, .inr ⟨_, rfl, hl, hm, by simpa using hz, hcell, hwz⟩⟩
  clear hA0 hval0
  refine (packetAnswers_walk W aR nR cR zR pR iR aO nO cO zO pO iO aP nP cP lP aD nD cD zD x4 a5 len5 cap5 hR (int_of wpR) (int_of wiR) hO (int_of wpO) (int_of wiO) hP fP hD (int_of w4) (rowAt_of w5)).mono fun e W' ⟨he, bel⟩ => ?_
  subst he
  exact ⟨_, rfl, _, _, _, [], _, [], hW', trodAll_mk1 (shut_bool Tryz.underlying4 _), (trodAll_cons_mk (Below.trod laidOut (by kernel_rfl) (of_decide_eq_true (by kernel_rfl)) k0 bel lt0) (trodAll_cons_mk (Below.trod laidOut (by kernel_rfl) (of_decide_eq_true (by kernel_rfl)) k1 bel lt1) (trodAll_cons_mk (Below.trod laidOut (by kernel_rfl) (of_decide_eq_true (by kernel_rfl)) k2 bel lt2) (trodAll_cons_mk (Below.trod laidOut (by kernel_rfl) (of_decide_eq_true (by kernel_rfl)) k3 bel lt3') (trodAll_cons_mk (shut_int Tryz.underlying3 w4) (trodAll_cons_mk (Below.trod laidOut (by kernel_rfl) (of_decide_eq_true (by kernel_rfl)) k5 bel lt5) trodAll_mk0)))))), rfl, bel.frame _, fun h => by cases h⟩

theorem fact1 : Tryz.pinned.checked.prog.funcNamed Rows.packetAnswersRow.func = some 3 := by kernel_rfl
theorem fact2a : Tryz.pinned.checked.prog.mayEnter = true := by kernel_rfl
theorem fact2b : (Rows.packetAnswersRow.lifted == Tryz.pinned.checked.prog.liftsFinal) = true := by kernel_rfl
theorem fact2c : (Tryz.pinned.checked.prog.make == some Rows.packetAnswersRow.make) = true := by kernel_rfl
theorem fact2 : joinedFacts Tryz.pinned.checked.prog 3 Tryz.f3 Rows.packetAnswersSpec Rows.packetAnswersRow = true := by
  unfold joinedFacts
  rw [fact2a, fact2b, fact2c]
  kernel_rfl
theorem fact3 : Func.isInstance Tryz.pinned.checked.prog Tryz.f3 Rows.packetAnswersRow.origin Rows.packetAnswersRow.targs := of_decide_eq_true (by kernel_rfl)
theorem fact4 : Func.isWrapper Tryz.pinned.checked.prog Tryz.f3 Rows.packetAnswersRow.wrapper Rows.packetAnswersRow.mainSum := by unfold Func.isWrapper; first | (rw [if_pos (by decide +kernel)]; kernel_rfl) | (rw [if_neg (by decide +kernel)]; exact ⟨rfl, rfl⟩)
theorem over : Rows.packetAnswersRow.holds Tryz.pinned (OpenSpec.ofChange Rows.packetAnswersSpec) :=
  OpenClaim.holds_of_wide 3 Tryz.f3 rfl rfl rfl rfl rfl rfl rfl ⟨rfl, rfl, rfl, rfl, rfl⟩ rfl rfl rfl rfl rfl fact1 Tryz.func3 fact2 fact3 fact4
    (fun os started H enc _ => lifted os started H enc)

/-- ████ THE STATEMENT ████ -/
theorem proved : Rows.PacketAnswersSaid := over
#print axioms proved
end Go.Proofs.YtkienpbmoilheaaGreat.packetAnswers
