/- The document's Bytes. By the verifier's side. -/
import Derived.Test.YtkienpbmoilheaaGreatATrXTrV
import Derived.Test.YtkienpbmoilheaaGreatATrTTrU
import Derived.Test.YtkienpbmoilheaaGreatATrPTrQTrR
import Derived.OwnWalkIn
namespace Go.Proofs.YtkienpbmoilheaaGreat
open Go.RowKit
set_option linter.unusedSimpArgs false
set_option linter.unusedVariables false

theorem ofFlow_iff (fl : Int) (q : Pk) : ofFlow fl q = true ↔ (-1 ≤ fl ∧ (fl = -1 ∨ q.f = fl)) := by
  unfold ofFlow; simp only [Bool.and_eq_true, Bool.or_eq_true, decide_eq_true_eq]
end Go.Proofs.YtkienpbmoilheaaGreat

namespace Go.Proofs.YtkienpbmoilheaaGreat
open Go.RowKit
set_option linter.unusedSimpArgs false
set_option linter.unusedVariables false

theorem pkR_one (w : World) (q : Pk) (hq : Pk64 q) : PkR (w.alloc (.cells #[.int .i64 q.f, .int .i64 q.t, .int .i64 q.s] 54)) (some ⟨w.heap.size, 0, none⟩) 1 1 [q] :=
  pkR_new (l := [q]) (by simp) (fun x hx => by rw [List.mem_singleton.1 hx]; exact hq) (fun i x hx => by
    rcases i with _ | i
    · cases hx; exact ⟨rfl, rfl, rfl⟩
    · cases hx)
/-- A list of its own is handed back. -/
def GivesOwn (l : List Pk) (w : World) (e : Ending) (w' : World) : Prop :=
  ∃ a n cap, e = .returned (.slice a n cap) ∧ Below w.heap.size w w' ∧ PkR w' a n cap l ∧ ∀ x, a = some x → w.heap.size ≤ x.block
end Go.Proofs.YtkienpbmoilheaaGreat

namespace Go.Proofs.YtkienpbmoilheaaGreat
open Go.RowKit Go.Shelf
set_option linter.unusedSimpArgs false
set_option linter.unusedVariables false
attribute [local go_sem] Oper.semAt_some

theorem newsG (w : World) (q : Pk) (t : TypeId) : ∀ j u, ([.int .i64 q.f, .int .i64 q.t, .int .i64 q.s] : List Value)[j]? = some u → (w.alloc (.cells #[.int .i64 q.f, .int .i64 q.t, .int .i64 q.s] t)).cell? ((⟨w.heap.size, 0, none⟩ : Addr).add j) = some u := fun j u hj => by
  have ea : ((⟨w.heap.size, 0, none⟩ : Addr).add j) = ⟨w.heap.size, j, none⟩ := by unfold Addr.add; split <;> simp_all
  rw [ea]
  have hq3 : j < 3 := (List.getElem?_eq_some_iff.1 hj).1
  rcases j with _ | _ | _ | j
  · cases hj; exact cell_new13 rfl
  · cases hj; exact cell_new13 rfl
  · cases hj; exact cell_new13 rfl
  · omega
theorem onesG (q : Pk) : ∀ u ∈ ([.int .i64 q.f, .int .i64 q.t, .int .i64 q.s] : List Value), u.oneCell' = true := fun u hu => by
  simp only [List.mem_cons, List.not_mem_nil, or_false] at hu; rcases hu with rfl | rfl | rfl <;> rfl
theorem rows_ownG (base n : Nat) (v : Value) (xs : List Value) : Own (fun (_ : Unit) W => W.ownsRow base 54 3 v n xs) := fun s X Y row ho hg hrow => by
  refine ⟨ho.1, ?_⟩
  rcases ho.2 with h0 | ⟨g, cap, cur, hv, hbase, hgc, h1, h2, h3, h4⟩
  · exact .inl h0
  · have hlt : g < X.heap.size := (Array.getElem?_eq_some_iff.1 hgc).1
    exact .inr ⟨g, cap, cur, hv, hbase, (hg.block g hlt (fun e' => by obtain ⟨o, hx, hc⟩ := hrow g e'.symm; rw [hgc] at hx; cases hx; cases hc)).trans hgc, h1, h2, h3, h4⟩
/-- A boxed list that grows. -/
def BoxL (B : Nat) (pre : List Pk) (W : World) : Prop := ∃ v, Boxed W B 25 v ∧ W.ownsRow (B + 1) 54 3 v pre.length (pkV pre)
theorem boxL_own (B : Nat) : Own (fun (pre : List Pk) W => BoxL B pre W) := fun s X Y row hs hg hrow => by
  obtain ⟨v, hb, ho⟩ := hs
  refine ⟨v, boxed_own (β := Unit) B 25 (fun _ => v) () X Y row hb hg hrow, ho.1, ?_⟩
  rcases ho.2 with h0 | ⟨g, cap, cur, hv, hbase, hgc, h1, h2, h3, h4⟩
  · exact .inl h0
  · have hlt : g < X.heap.size := (Array.getElem?_eq_some_iff.1 hgc).1
    exact .inr ⟨g, cap, cur, hv, hbase, (hg.block g hlt (fun e' => by obtain ⟨o, hx, hc⟩ := hrow g e'.symm; rw [hgc] at hx; cases hx; cases hc)).trans hgc, h1, h2, h3, h4⟩
theorem BoxL.alloc {B : Nat} {pre : List Pk} {W : World} (h : BoxL B pre W) (o : Obj) : BoxL B pre (W.alloc o) := by
  obtain ⟨v, hb, ho⟩ := h; exact ⟨v, hb.alloc o, ho.alloc o⟩
theorem owns_setG {w : World} {base n : Nat} {v : Value} {xs : List Value} (h : w.ownsRow base 54 3 v n xs) {p : Addr} (hp : p.block < base) (x : Value) : (w.setCell p x).ownsRow base 54 3 v n xs := by
  obtain ⟨hl, hr⟩ := h
  refine ⟨hl, ?_⟩
  rcases hr with h0 | ⟨g, cap, cur, hv, hbase, hg, h1, h2, h3, h4⟩
  · exact .inl h0
  · exact .inr ⟨g, cap, cur, hv, hbase, (Below.heap_setCell _ _ _ _ (by omega)).trans hg, h1, h2, h3, h4⟩
theorem owns_cellsG {w : World} {base n : Nat} {v : Value} {xs : List Value} (h : w.ownsRow base 54 3 v n xs) : ∀ (j : Nat) (o : Obj), v.ownBlock = some j → w.heap[j]? = some o → o.isCells = true := fun j o hj ho => by
  rcases h.2 with ⟨rfl, _⟩ | ⟨g, cap, cur, rfl, hbase, hg, _⟩
  · cases hj
  · have e : g = j := Option.some.inj hj
    subst e
    rw [hg] at ho; cases ho; rfl

set_option maxRecDepth 100000 in
set_option maxHeartbeats 2000000 in
theorem appendSeq_in (a : Option Addr) (len cap : Nat) (lst : List Pk) (fl : Int) (Bf Bs : Nat) (w : World) (hf : Bf < w.heap.size) (hs : Bs < w.heap.size) (hcf : w.cell? ⟨Bf, 0, none⟩ = some (.int .i64 fl)) (hcs : w.cell? ⟨Bs, 0, none⟩ = some (.slice a len cap)) (h : PkR w a len cap lst) :
    CallsIn Fence.wide 8 Tryz.prog 92 #[.slice none 0 0, .func (.func 93) #[] #[.pointer (some ⟨Bf, 0, none⟩), .pointer (some ⟨Bs, 0, none⟩)]] w fun e w' => ∃ v, e = .returned v ∧ Below w.heap.size w w' ∧ w'.ownsRow (w.heap.size + 1) 54 3 v (sel fl lst).length (pkV (sel fl lst)) := by
  obtain ⟨i0, hi, hz0, hz1, hz2⟩ := info_parts info_pk
  have H := Lib.hid h
  have hsm := h.sm
  clear h
  have hro : Fence.wide.round = none := rfl
  refine callsIn_of_wp_marks Tryz.func92 rfl trivial ?_ hro
  simp only [Tryz.ntmps92, List.size_toArray, List.length_cons, List.length_nil, Nat.reduceAdd, Nat.reduceSub, Array.replicate_succ, Array.replicate_zero, List.push_toArray, List.append_toArray, List.nil_append, List.cons_append]
  gi_wp2
  have bS := Boxed.new w 25 (.slice none 0 0)
  have hB0 : Below w.heap.size w (w.alloc (.cells #[.slice none 0 0] 25)) := (Below.refl _ w).alloc (Nat.le_refl _) _
  have hsz : (w.alloc (.cells #[.slice none 0 0] 25)).heap.size = w.heap.size + 1 := by simp
  have cF := (hB0.cell (p := ⟨Bf, 0, none⟩) hf).trans hcf
  have cS := (hB0.cell (p := ⟨Bs, 0, none⟩) hs).trans hcs
  obtain ⟨W0, hW0⟩ : ∃ W0, w.alloc (.cells #[.slice none 0 0] 25) = W0 := ⟨_, rfl⟩
  rw [hW0] at bS hB0 hsz cF cS ⊢
  clear hW0
  refine wpIn_rangeFunc_ownH hro (by omega) (gf := 93) (lb := #[.pointer (some ⟨Bf, 0, none⟩), .pointer (some ⟨Bs, 0, none⟩)]) rfl trivial (enters_of Tryz.func93 (by kernel_rfl) rfl)
    (packets_stops Fence.wide (8 - 1) trivial hro (by omega) Bf Bs (w.heap.size + 1) w.heap.size fl a len cap lst W0 (by omega) (by omega) (by omega) (by omega) (by omega) cF cS (H.out.under hB0)
      (fun B off ha hl => by
        rcases H.out.place with ⟨h0, _⟩ | ⟨B', off', ha', hc'⟩
        · omega
        · rw [ha] at ha'; cases ha'
          have := hc'.lt (List.getElem?_eq_getElem (show 0 < lst.length by rw [H.out.len]; omega))
          omega)) bbK_t (bbK_b (by omega)) (Below.refl _ _) (fun _ => rfl)
    (fun pre W => BoxL w.heap.size pre W ∧ BB (w.heap.size + 1) w.heap.size W0 W)
    (fun _ _ _ => False)
    (OwnFrom.and (Own.from (boxL_own _) _) (ownFrom_bb (by omega) (by omega)))
    (fun _ _ _ _ _ hs _ _ => hs)
    ⟨⟨_, bS, World.ownsRow_nil _ _ _ _⟩, BB.refl _ _ _⟩
    (fun x a' W => ∃ Bx, w.heap.size < Bx ∧ PkBox W Bx x ∧ a' = { tmps := #[.slice none 0 0, .func (.func 93) #[] #[.pointer (some ⟨Bf, 0, none⟩), .pointer (some ⟨Bs, 0, none⟩)], .pointer (some ⟨w.heap.size, 0, none⟩), undef, .slice none 0 0, .pointer (some ⟨Bx, 0, none⟩), .func (.func 93) #[] #[.pointer (some ⟨Bf, 0, none⟩), .pointer (some ⟨Bs, 0, none⟩)], .agg #[.int .i64 x.f, .int .i64 x.t, .int .i64 x.s], undef, undef, undef, undef, undef], defers := [] })
    (fun x a' _ X Y row hs hg hr => by obtain ⟨Bx, h1, h2, h3⟩ := hs; exact ⟨Bx, h1, pkBox_own (β := Unit) Bx x () X Y row h2 hg (fun r e => (hr r e).2), h3⟩)
    ?assign ?body ?done ?stop
  case assign =>
    rintro l pre x W K ⟨bS1, hB1⟩ hK
    gi_wp2
    have hz := hB1.size
    exact hK _ _ ((KeepsOthers.alloc _ _).from _) ((BB.refl _ _ _).alloc (by omega) _) ⟨bS1.alloc _, hB1.alloc (by omega) _⟩ ⟨W.heap.size, by omega, PkBox.new W x, rfl⟩
  case body =>
    rintro l pre x a' W hl ⟨r, hr⟩ ⟨⟨v, bS1, hown⟩, hB1⟩ ⟨Bx, hBx, bX, rfl⟩ hlt
    have cV := bS1.cell
    have fV := bS1.frozen
    obtain ⟨x0, x1, x2⟩ := bX.cells
    have hz := hB1.size
    have hlt' : pre.length < len := hlt
    have HO := Lib.hid hown
    have HBS := Lib.hid (And.intro bS1 hB1)
    clear bS1 hB1 bX hown bS hB0 cF cS
    gi_wp2_with (gi_at_builtin; refine wpListIn_append_own _ rfl _ _ 25 rfl (w.heap.size + 1) 54 i0 (.agg #[.int .i64 0, .int .i64 0, .int .i64 0]) 3 24 Tryz.underlying25 hi hz0 hz1 hz2 rfl (by decide) v _ (pkV pre) rfl (HO.out.alloc _) ⟨W.heap.size, 0, none⟩ 1 1 [.int .i64 x.f, .int .i64 x.t, .int .i64 x.s] rfl rfl (newsG W x _) (onesG x) (by unfold maxLen; omega) (by omega) (by simp; omega) ?_)
    intro v' W2 ho' hg' _
    have hrow : ∀ j, v.ownBlock = some j → w.heap.size + 1 ≤ j := fun j hj => (HO.out.lt j hj).1
    have bS2 : Boxed W2 w.heap.size 25 v := (HBS.out.1.alloc _).kept hg' (fun e => by have := hrow _ e.symm; omega)
    have cV2 := bS2.cell
    have fV2 := bS2.frozen
    have ho2 : W2.ownsRow (w.heap.size + 1) 54 3 v' (pre.length + 1) (pkV (pre ++ [x])) := by rw [pkV_append]; exact ho'
    obtain ⟨_, a6, c6, hv6, _⟩ := pkO_of_owns ho2
    subst hv6
    have HN := Lib.hid (And.intro bS2 (And.intro ho2 hg'))
    have HW := Lib.hid hrow
    clear ho' hg' bS2 hrow ho2
    gi_wp2
    refine ⟨((KeepsOthers.alloc _ _).trans ((KeepsOthers.of_grownBy HN.out.2.2 (owns_cellsG (HO.out.alloc _))).trans (KeepsOthers.setCell _ _ _))).from _, (((BB.refl _ _ _).alloc (by omega) _).grown HN.out.2.2 (by omega) HW.out).set _ _, ⟨_, HN.out.1.set _, ?_⟩, ((HBS.out.2.alloc (by omega) _).grown HN.out.2.2 (by omega) HW.out).set _ _⟩
    rw [List.length_append]
    exact owns_setG HN.out.2.1 (by show w.heap.size < _; omega) _
  case done =>
    rintro D zs W hD rfl ⟨⟨v, bS1, hown⟩, hB1⟩ hK
    have cS := bS1.cell
    gi_wp2
    refine ⟨by simp, .inl ⟨_, _, rfl, run_takeDeferred hK, ?_⟩⟩
    refine ⟨_, results_tmp rfl _ _ _, ⟨v, rfl, (hB0.trans (hB1.below (by omega) (Nat.le_refl _))).trans (belowK_b (w := w) (Nat.le_refl _) W D _ _ (by omega) hK rfl rfl), Own.putObj (rows_ownG _ _ _ _) (s := ()) _ hown hK rfl⟩⟩
  case stop =>
    rintro D c pre W _ _ h _
    exact h.elim

set_option maxHeartbeats 400000 in
theorem collect_in (a : Option Addr) (len cap : Nat) (lst : List Pk) (fl : Int) (Bf Bs : Nat) (w : World) (hf : Bf < w.heap.size) (hs : Bs < w.heap.size) (hcf : w.cell? ⟨Bf, 0, none⟩ = some (.int .i64 fl)) (hcs : w.cell? ⟨Bs, 0, none⟩ = some (.slice a len cap)) (h : PkR w a len cap lst) :
    Calls Tryz.prog 71 #[.func (.func 93) #[] #[.pointer (some ⟨Bf, 0, none⟩), .pointer (some ⟨Bs, 0, none⟩)]] w fun e w' => ∃ v, e = .returned v ∧ Below w.heap.size w w' ∧ w'.ownsRow (w.heap.size + 1) 54 3 v (sel fl lst).length (pkV (sel fl lst)) := by
  have hc := (callsIn_wide (n := 8)).1 (appendSeq_in a len cap lst fl Bf Bs w hf hs hcf hcs h)
  go_enter Tryz.func71, Tryz.ntmps71
  go_wp2_with fail
  refine hc.mono ?_
  rintro e w1 ⟨v, rfl, hb, ho⟩
  have HR := Lib.hid (And.intro hb ho)
  clear hb ho hc
  go_wp2_with fail
  go_ret
  exact ⟨v, rfl, HR.out⟩
set_option maxHeartbeats 400000 in
theorem select13 (a : Option Addr) (len cap : Nat) (lst : List Pk) (fl : Int) (w : World) (h : PkR w a len cap lst) :
    Calls Tryz.prog 47 #[.slice a len cap, .int .i64 fl] w (GivesOwn (sel fl lst) w) := by
  have H := Lib.hid h
  clear h
  have hp := (callsIn_wide (n := 8)).1 (packets_in Fence.wide 8 trivial rfl a len cap fl w)
  go_enter Tryz.func47, Tryz.ntmps47
  go_wp2_with fail
  refine hp.mono ?_
  rintro e w1 ⟨rfl, rfl⟩
  clear hp
  have hB : Below w.heap.size w ((w.alloc (.cells #[.slice a len cap] 25)).alloc (.cells #[.int .i64 fl] 3)) := ((Below.refl _ _).alloc (Nat.le_refl _) _).alloc (by simp) _
  have cS := ((Boxed.new w 25 (.slice a len cap)).alloc (.cells #[.int .i64 fl] 3)).cell
  have cF := (Boxed.new (w.alloc (.cells #[.slice a len cap] 25)) 3 (.int .i64 fl)).cell
  simp only [World.size_alloc] at cF
  have hsz : ((w.alloc (.cells #[.slice a len cap] 25)).alloc (.cells #[.int .i64 fl] 3)).heap.size = w.heap.size + 2 := by simp
  obtain ⟨W0, hW0⟩ : ∃ W0, (w.alloc (.cells #[.slice a len cap] 25)).alloc (.cells #[.int .i64 fl] 3) = W0 := ⟨_, rfl⟩
  rw [hW0] at hB cS cF hsz ⊢
  clear hW0
  go_wp2_with fail
  refine (collect_in a len cap lst fl (w.heap.size + 1) w.heap.size W0 (by omega) (by omega) cF cS (H.out.under hB)).mono ?_
  rintro e w2 ⟨v, rfl, hb, ho⟩
  have HR := Lib.hid (And.intro hb ho)
  have HB := Lib.hid hB
  have HZ := Lib.hid hsz
  clear hb ho hB cS cF hsz
  go_wp2_with fail
  go_ret
  have hlen : (sel fl lst).length ≤ 1000000 := Nat.le_trans (sel_le fl lst) (by rw [H.out.len]; exact H.out.sm)
  obtain ⟨hl, a', c, hv, h1, h2, h3, h4⟩ := pkO_of_owns HR.out.2
  subst hv
  refine ⟨a', _, c, rfl, HB.out.trans (HR.out.1.mono HB.out.size), ⟨hl, h1, hlen, h2, ?_, fun q hq => H.out.bd q (List.mem_filter.1 hq).1⟩, fun x hx => by have := h3 x hx; have := HZ.out; omega⟩
  rcases h4 with ⟨_, h0⟩ | ⟨g', ha, _, ho⟩
  · exact .inl ⟨h0, fun _ _ => trivial⟩
  · exact .inr ⟨g', 0, ha, ho.cells⟩

end Go.Proofs.YtkienpbmoilheaaGreat
