/- Merge of package trace: the first error of two, and two lists joined. By the verifier's side. -/
import Derived.Test.YtknimlpdpgpliaaTTrITrJ
import Derived.Test.YtknimlpdpgpliaaTTrU
import Derived.Lib.AppendZeros
import Derived.Laws.OwnMore
namespace Go.Proofs.Ytknimlpdpgpliaa
open Go.RowKit
set_option linter.unusedSimpArgs false
set_option linter.unusedVariables false

theorem run_append_nilc {P : Program} {w : World} (base : Nat) (t ty e : TypeId) (i : TypeInfo) (size c : Nat) (ht : P.underlying t = some (.slice e)) (hi : P.info? e = some i)
    (v : Value) (n : Nat) (xs : List Value) (hown : w.ownsRow base e size v n xs) :
    (Builtin.append_ #[t, t] ty #[v, .slice none 0 c]).run P w = .ok v w := by
  rcases hown.2 with ⟨rfl, rfl⟩ | ⟨g, cap, cur, rfl, _, _, hnc, _⟩
  · simp [Builtin.append_, run_underlying ht, sizeOf, typeInfo, hi, Builtin.lenOf, Builtin.firstCells]
  · simp [Builtin.append_, run_underlying ht, sizeOf, typeInfo, hi, Builtin.lenOf, Builtin.firstCells, hnc, storeCells]

theorem grownBy_below {base : Nat} {u w : World} {row : Option Nat} (hg : u.grownBy w row) (hr : ∀ j, row = some j → base ≤ j) (hb : base ≤ u.heap.size) : Below base u w :=
  (Below.refl base u).grown hg hb hr

theorem wpList_append_pk {w : World} {ops : Array Oper} {rest : List Oper} {o : Oper} {a : Act} {Q : Exit → Act → World → Prop} (hgd : o.guard = none) (s x : Operand)
    (ho : o.op = .call { callee := .builtin .append, args := #[s, x], argTypes := #[45, 45] })
    (base : Nat) (v : Value) (n : Nat) (l0 : List Pk) (hs : a.eval s = v) (hown : w.ownsRow base 76 3 v n (pkV l0))
    (b : Option Addr) (m c : Nat) (l1 : List Pk) (hx : a.eval x = .slice b m c) (hr : PkR w b m c l1) (hn : n ≤ 1000000) (hbase : base ≤ w.heap.size)
    (h : ∀ v' w', w'.ownsRow base 76 3 v' (n + m) (pkV (l0 ++ l1)) → Below base w w' → wpList Try.prog ops Q rest (a.put o.dst v') w') : wpList Try.prog ops Q (o :: rest) a w := by
  obtain ⟨i0, hi, hz0, hz1, hz2⟩ := info_parts info_pk
  have hsm := hr.sm
  have hrow : ∀ j, v.ownBlock = some j → base ≤ j := fun j hj => (hown.lt j hj).1
  cases b with
  | none =>
    obtain rfl : m = 0 := by
      rcases hr.place with ⟨h0, _⟩ | ⟨B, off, ha, _⟩
      · exact h0
      · cases ha
    have hl1 : l1 = [] := List.length_eq_zero_iff.1 hr.len
    subst hl1
    refine wpList_plain hgd fun K hK => ?_
    have hrun := run_append_nilc (P := Try.prog) (w := w) base 45 o.type 76 i0 3 c Try.underlying45 hi v n (pkV l0) hown
    unfold Oper.wp
    simp [execOp, ho, resolve, invoke, builtin, hs, hx, hrun, Result.andThen]
    exact hK _ _ (h v w (by rw [List.append_nil]; exact hown) (Below.refl _ _))
  | some ad =>
    refine wpList_append_own w hgd s x 45 ho base 76 i0 (.agg #[.int .i64 0, .int .i64 0, .int .i64 0]) 3 24 Try.underlying45 hi hz0 hz1 hz2 rfl (by decide) v n (pkV l0) hs hown ad m c (pkV l1) hx (by rw [pkV_length, hr.len]) ?_ (pkV_one l1) (by unfold maxLen; omega) (by omega) hbase ?_
    · intro j u hj
      rcases hr.place with ⟨h0, _⟩ | ⟨B, off, ha, hc⟩
      · have : l1 = [] := List.length_eq_zero_iff.1 (by rw [hr.len]; exact h0)
        subst this; cases hj
      · cases ha; exact hc.news j u hj
    · intro v' w' ho' hg _
      exact h v' w' (by rw [pkV_append]; exact ho') (grownBy_below hg hrow hbase)

set_option maxHeartbeats 800000 in
theorem or13 (g cap : Nat) (x y : Int) (w : World) (h0 : w.cell? ⟨g, 0, none⟩ = some (.int .i64 x)) (h1 : w.cell? ⟨g, 1, none⟩ = some (.int .i64 y)) :
    Calls Try.prog 96 #[.slice (some ⟨g, 0, none⟩) 2 cap] w fun e w' => e = .returned (.int .i64 (if x = 0 then y else x)) ∧ w' = w := by
  by_cases hx : x = 0
  · subst hx
    by_cases hy : y = 0
    · subst hy
      go_enter Try.func96, Try.ntmps96
      go_wp2_with fail
      refine wp_loop_rounds 3 ?_
      rw [rounds_succ]
      go_wp2_with fail
      rw [rounds_succ]
      go_wp2_with fail
      rw [rounds_succ]
      go_wp2_with fail
      go_ret
      exact ⟨rfl, rfl⟩
    · go_enter Try.func96, Try.ntmps96
      go_wp2_with fail
      refine wp_loop_rounds 3 ?_
      rw [rounds_succ]
      go_wp2_with fail
      rw [rounds_succ]
      go_wp2_with fail
      go_ret
      exact ⟨rfl, rfl⟩
  · go_enter Try.func96, Try.ntmps96
    go_wp2_with fail
    refine wp_loop_rounds 3 ?_
    rw [rounds_succ]
    go_wp2_with fail
    go_ret
    exact ⟨rfl, rfl⟩

set_option maxRecDepth 100000 in
set_option maxHeartbeats 800000 in
theorem grow13 (n : Nat) (hn : n ≤ 1000) (w : World) :
    Calls Try.prog 151 #[.slice none 0 0, .int .i64 n] w fun e w' => ∃ v, e = .returned v ∧ w'.ownsRow w.heap.size 76 3 v 0 [] ∧ Below w.heap.size w w' := by
  obtain ⟨i0, hi, hz0, hz1, hz2⟩ := info_parts info_pk
  by_cases h0 : n = 0
  · subst h0
    go_enter Try.func151, Try.ntmps151
    go_wp2_with fail
    go_ret
    exact ⟨_, rfl, World.ownsRow_nil _ _ _ _, Below.refl _ _⟩
  · have hp : 0 < n := by omega
    have hpI : (0 : Int) < (n : Int) := by omega
    have hge := grownCap_ge w n 0 76
    have hcm := grownCap_le_maxLen w n 0 76 (by unfold maxLen; omega)
    have HC := Lib.hid (And.intro hge hcm)
    clear hge hcm
    go_enter Try.func151, Try.ntmps151
    go_wp2_with (at_builtin; refine Lib.wpList_append_run _ rfl _ _ 45 3 rfl _ _ rfl rfl _ _ (Lib.run_append_nil_zeros _ 45 3 _ 76 i0 (.agg #[.int .i64 0, .int .i64 0, .int .i64 0]) .i64 .i64 Try.underlying45 Try.underlying3 hi hz0 n hp (by omega) (by omega) (by rw [hz2]; omega)) ?_)
    go_ret
    refine ⟨_, rfl, ⟨rfl, .inr ⟨w.heap.size, _, _, rfl, Nat.le_refl _, heap_alloc_new w.drew _, Nat.zero_le _, HC.out.2, ?_, rfl⟩⟩, ((Below.refl _ _).drew).alloc (Nat.le_refl _) _⟩
    rw [Array.size_append, size_zeroCells, size_zeroCells]
    have := HC.out.1
    show n * 3 + (grownCap w n 0 76 - n) * 3 = _
    omega

/-- The two lists that are joined. -/
structure Two13 (w : World) (g : Nat) (a1 : Option Addr) (n1 c1 : Nat) (a2 : Option Addr) (n2 c2 : Nat) : Prop where
  x : w.cell? ⟨g, 0, none⟩ = some (.slice a1 n1 c1)
  y : w.cell? ⟨g, 1, none⟩ = some (.slice a2 n2 c2)
set_option maxRecDepth 100000 in
set_option maxHeartbeats 1600000 in
theorem concat13 (g cap : Nat) (a1 : Option Addr) (n1 c1 : Nat) (l1 : List Pk) (a2 : Option Addr) (n2 c2 : Nat) (l2 : List Pk) (hn1 : n1 ≤ 60) (hn2 : n2 ≤ 60) (w : World) (hc : Two13 w g a1 n1 c1 a2 n2 c2) (hr1 : PkR w a1 n1 c1 l1) (hr2 : PkR w a2 n2 c2 l2) :
    Calls Try.prog 97 #[.slice (some ⟨g, 0, none⟩) 2 cap] w fun e w' => ∃ a n c, e = .returned (.slice a n c) ∧ Below w.heap.size w w' ∧ PkR w' a n c (l1 ++ l2) := by
  have hg : g < w.heap.size := lt_of_cell hc.x
  have hcx := hc.x
  have hcy := hc.y
  have H := Lib.hid hc
  have H1 := Lib.hid hr1
  have H2 := Lib.hid hr2
  clear hc hr1 hr2
  go_enter Try.func97, Try.ntmps97
  go_wp2_with fail
  refine wp_loop_rounds 3 ?_
  rw [rounds_succ]
  go_wp2_with fail
  rw [rounds_succ]
  go_wp2_with fail
  rw [rounds_succ]
  go_wp2_with fail
  rw [show ((n1 : Int) + (n2 : Int)) = ((n1 + n2 : Nat) : Int) by omega]
  refine (grow13 (n1 + n2) (by omega) _).mono ?_
  rintro e w1 ⟨v, rfl, ho, hb⟩
  have hx1 : w1.cell? ⟨g, 0, none⟩ = some (.slice a1 n1 c1) := (hb.cell hg).trans hcx
  have hy1 : w1.cell? ⟨g, 1, none⟩ = some (.slice a2 n2 c2) := (hb.cell hg).trans hcy
  have HO := Lib.hid ho
  have HB := Lib.hid hb
  clear hcx hcy ho hb
  go_wp2_with fail
  refine wp_loop_rounds 3 ?_
  rw [rounds_succ]
  go_wp2_with (at_builtin; (refine wpList_append_pk rfl _ _ rfl w.heap.size v 0 [] rfl HO.out a1 n1 c1 l1 rfl (H1.out.under HB.out) (by omega) HB.out.size ?_))
  intro v2 w2 ho2 hb2
  try simp only [Nat.zero_add, List.nil_append] at ho2
  have hb02 : Below w.heap.size w w2 := HB.out.trans hb2
  have hx2 : w2.cell? ⟨g, 1, none⟩ = some (.slice a2 n2 c2) := (hb02.cell hg).trans H.out.y
  have HO2 := Lib.hid ho2
  have HB2 := Lib.hid hb02
  clear hx1 hy1 ho2 hb2 hb02
  go_wp2_with fail
  rw [rounds_succ]
  go_wp2_with (at_builtin; refine wpList_append_pk rfl _ _ rfl w.heap.size v2 n1 l1 rfl HO2.out a2 n2 c2 l2 rfl (H2.out.under HB2.out) (by omega) HB2.out.size ?_)
  intro v3 w3 ho3 hb3
  have HO3 := Lib.hid ho3
  have HB3 := Lib.hid (HB2.out.trans hb3)
  clear hx2 ho3 hb3
  go_wp2_with fail
  rw [rounds_succ]
  go_wp2_with fail
  go_ret
  obtain ⟨hl, a, c, hv, h1, h2, h3, h4⟩ := pkO_of_owns HO3.out
  subst hv
  refine ⟨a, _, c, rfl, HB3.out, ⟨hl, h1, by omega, h2, ?_, fun q hq => ?_⟩⟩
  · rcases h4 with ⟨_, h0⟩ | ⟨g', ha, _, ho⟩
    · exact .inl ⟨h0, fun _ _ => trivial⟩
    · exact .inr ⟨g', 0, ha, ho.cells⟩
  · rcases List.mem_append.1 hq with k | k
    · exact H1.out.bd q k
    · exact H2.out.bd q k

/-- A list and an error are handed back: the list where there is no error. -/
def GivesPkE (c : Int) (l : List Pk) (w : World) (e : Ending) (w' : World) : Prop :=
  ∃ a n cap, e = .returned (.tuple #[.slice a n cap, .int .i64 c]) ∧ Below w.heap.size w w' ∧ PkR w' a n cap l
theorem pkR_nil (w : World) : PkR w none 0 0 [] := ⟨rfl, Nat.le_refl _, by omega, by omega, .inl ⟨rfl, fun _ _ => trivial⟩, fun _ h => by cases h⟩
/-- The error of Merge. -/
def mcode (l1 l2 : List Pk) : Int := if vcode l1 = 0 then (if vcode l2 = 0 then (if 60 < l1.length + l2.length then 3 else 0) else vcode l2) else vcode l1
/-- What Merge gives. -/
def mergeL (l1 l2 : List Pk) : List Pk := if mcode l1 l2 = 0 then isort (l1 ++ l2) else []
set_option maxRecDepth 100000 in
set_option maxHeartbeats 1600000 in
theorem merge13 (a1 : Option Addr) (n1 c1 : Nat) (l1 : List Pk) (a2 : Option Addr) (n2 c2 : Nat) (l2 : List Pk) (w : World) (hr1 : PkR w a1 n1 c1 l1) (hr2 : PkR w a2 n2 c2 l2) :
    Calls Try.prog 50 #[.slice a1 n1 c1, .slice a2 n2 c2] w (GivesPkE (mcode l1 l2) (mergeL l1 l2) w) := by
  have H1 := Lib.hid hr1
  have H2 := Lib.hid hr2
  have hs1 := hr1.sm
  have hs2 := hr2.sm
  clear hr1 hr2
  by_cases e1 : vcode l1 = 0
  case neg =>
    obtain ⟨x, hx⟩ : ∃ x, vcode l1 = x := ⟨_, rfl⟩
    have hm : mcode l1 l2 = x := by unfold mcode; rw [if_neg e1, hx]
    have hl : mergeL l1 l2 = [] := by unfold mergeL; rw [if_neg (by rw [hm, ← hx]; exact e1)]
    rw [hm, hl]
    rw [hx] at e1
    have HX := Lib.hid hx
    clear hx hm hl
    go_enter Try.func50, Try.ntmps50
    go_wp2_with fail
    refine (validate_any a1 n1 c1 l1 x HX.out _ H1.out).mono ?_
    rintro e w1 ⟨rfl, hb1⟩
    have HB1 := Lib.hid hb1
    clear hb1
    go_wp2_with fail
    refine (validate_any a2 n2 c2 l2 _ rfl _ (H2.out.under HB1.out)).mono ?_
    rintro e w2 ⟨rfl, hb2⟩
    have HB2 := Lib.hid (HB1.out.trans (hb2.mono HB1.out.size))
    clear hb2
    go_wp2_with fail
    refine (or13 _ _ _ _ _ (cell_new13 rfl) (cell_new13 rfl)).mono ?_
    rintro e w3 ⟨he, rfl⟩
    rw [if_neg e1] at he
    subst he
    go_wp2_with fail
    go_ret2
    exact ⟨none, 0, 0, rfl, HB2.out.alloc HB2.out.size _, pkR_nil _⟩
  by_cases e2 : vcode l2 = 0
  case neg =>
    obtain ⟨x, hx⟩ : ∃ x, vcode l2 = x := ⟨_, rfl⟩
    have hm : mcode l1 l2 = x := by unfold mcode; rw [if_pos e1, if_neg e2, hx]
    have hl : mergeL l1 l2 = [] := by unfold mergeL; rw [if_neg (by rw [hm, ← hx]; exact e2)]
    rw [hm, hl]
    rw [hx] at e2
    have HX := Lib.hid hx
    have E1 := Lib.hid e1
    clear hx hm hl e1
    go_enter Try.func50, Try.ntmps50
    go_wp2_with fail
    refine (validate_any a1 n1 c1 l1 0 E1.out _ H1.out).mono ?_
    rintro e w1 ⟨rfl, hb1⟩
    have HB1 := Lib.hid hb1
    clear hb1
    go_wp2_with fail
    refine (validate_any a2 n2 c2 l2 x HX.out _ (H2.out.under HB1.out)).mono ?_
    rintro e w2 ⟨rfl, hb2⟩
    have HB2 := Lib.hid (HB1.out.trans (hb2.mono HB1.out.size))
    clear hb2
    go_wp2_with fail
    refine (or13 _ _ _ _ _ (cell_new13 rfl) (cell_new13 rfl)).mono ?_
    rintro e w3 ⟨he, rfl⟩
    rw [if_pos rfl] at he
    subst he
    go_wp2_with fail
    go_ret2
    exact ⟨none, 0, 0, rfl, HB2.out.alloc HB2.out.size _, pkR_nil _⟩
  have hle1 := (vcode_ok e1).1
  have hle2 := (vcode_ok e2).1
  rw [H1.out.len] at hle1
  rw [H2.out.len] at hle2
  have E1 := Lib.hid e1
  have E2 := Lib.hid e2
  by_cases h60 : 60 < n1 + n2
  · have hm : mcode l1 l2 = 3 := by unfold mcode; rw [if_pos e1, if_pos e2, H1.out.len, H2.out.len, if_pos h60]
    have hl : mergeL l1 l2 = [] := by unfold mergeL; rw [if_neg (by rw [hm]; decide)]
    rw [hm, hl]
    have h6 : (60 : Int) < (n1 : Int) + (n2 : Int) := by omega
    clear hm hl e1 e2 h60
    go_enter Try.func50, Try.ntmps50
    go_wp2_with fail
    refine (validate_any a1 n1 c1 l1 0 E1.out _ H1.out).mono ?_
    rintro e w1 ⟨rfl, hb1⟩
    have HB1 := Lib.hid hb1
    clear hb1
    go_wp2_with fail
    refine (validate_any a2 n2 c2 l2 0 E2.out _ (H2.out.under HB1.out)).mono ?_
    rintro e w2 ⟨rfl, hb2⟩
    have HB2 := Lib.hid (HB1.out.trans (hb2.mono HB1.out.size))
    clear hb2
    go_wp2_with fail
    refine (or13 _ _ _ _ _ (cell_new13 rfl) (cell_new13 rfl)).mono ?_
    rintro e w3 ⟨he, rfl⟩
    rw [if_pos rfl] at he
    subst he
    go_wp2_with fail
    go_ret2
    exact ⟨none, 0, 0, rfl, HB2.out.alloc HB2.out.size _, pkR_nil _⟩
  · have hm : mcode l1 l2 = 0 := by unfold mcode; rw [if_pos e1, if_pos e2, H1.out.len, H2.out.len, if_neg h60]
    have hl : mergeL l1 l2 = isort (l1 ++ l2) := by unfold mergeL; rw [if_pos hm]
    rw [hm, hl]
    have h6 : ¬ (60 : Int) < (n1 : Int) + (n2 : Int) := by omega
    clear hm hl e1 e2 h60
    go_enter Try.func50, Try.ntmps50
    go_wp2_with fail
    refine (validate_any a1 n1 c1 l1 0 E1.out _ H1.out).mono ?_
    rintro e w1 ⟨rfl, hb1⟩
    have HB1 := Lib.hid hb1
    clear hb1
    go_wp2_with fail
    refine (validate_any a2 n2 c2 l2 0 E2.out _ (H2.out.under HB1.out)).mono ?_
    rintro e w2 ⟨rfl, hb2⟩
    have HB2 := Lib.hid (HB1.out.trans (hb2.mono HB1.out.size))
    clear hb2
    go_wp2_with fail
    refine (or13 _ _ _ _ _ (cell_new13 rfl) (cell_new13 rfl)).mono ?_
    rintro e w3 ⟨he, rfl⟩
    rw [if_pos rfl] at he
    subst he
    go_wp2_with fail
    obtain ⟨u, hu⟩ : ∃ u : World, w2.alloc (.cells #[.int .i64 0, .int .i64 0] 30) = u := ⟨_, rfl⟩
    have hsz : w2.heap.size + 1 = u.heap.size := by rw [← hu]; simp
    have HB3 : Below w.heap.size w u := by rw [← hu]; exact HB2.out.alloc HB2.out.size _
    have HB4 : Below w.heap.size w (u.alloc (.cells #[.slice a1 n1 c1, .slice a2 n2 c2] 45)) := HB3.alloc HB3.size _
    rw [hsz, hu]
    refine (concat13 _ _ a1 n1 c1 l1 a2 n2 c2 l2 hle1 hle2 _ ⟨cell_new13 (w := u) (cs := #[.slice a1 n1 c1, .slice a2 n2 c2]) (i := 0) rfl, cell_new13 (w := u) (cs := #[.slice a1 n1 c1, .slice a2 n2 c2]) (i := 1) rfl⟩ (H1.out.under HB4) (H2.out.under HB4)).mono ?_
    rintro e w4 ⟨a4, n4, c4, rfl, hb4, hr4⟩
    have HB5 := Lib.hid (HB4.trans (hb4.mono HB4.size))
    have R4 := Lib.hid hr4
    have hn4 : n4 ≤ 1000 := by rw [← hr4.len, List.length_append, H1.out.len, H2.out.len]; omega
    clear hb4 hr4 HB4 HB3 hu hsz
    go_wp2_with fail
    refine (order13 a4 n4 c4 (l1 ++ l2) hn4 _ R4.out).mono ?_
    rintro e w5 ⟨a5, n5, c5, rfl, hb5, hl5, h51, h52, hx5, hg5⟩
    have R5 := Lib.hid (GivesPk.row hl5 h51 h52 (by rw [← hl5, isort_length, R4.out.len]; omega) (fun q hq => R4.out.bd q ((mem_isort _ _).1 hq)) hg5)
    have HB6 := Lib.hid (HB5.out.trans (hb5.mono HB5.out.size))
    clear hb5 hl5 h51 h52 hx5 hg5
    go_wp2_with fail
    go_ret2
    exact ⟨a5, n5, c5, rfl, HB6.out, R5.out⟩

end Go.Proofs.Ytknimlpdpgpliaa
