/- The packets of a flow, gone through by a range over a function: the iterator of package trace. By the verifier's side. -/
import Derived.Test.YtkienpbmoilheaaETrA
import Derived.RangeFuncNested
import Derived.RangeFuncBound
import Derived.RangeFuncCalls
import Derived.RangeFuncLeaves
import Derived.Shelf.Abstract
import Derived.WalkKit
import Derived.OwnWalkIn
import Derived.TacticsInMore
import Derived.LoopNIn
import Derived.LoopIn
import Derived.Test.YtkienpbmoilheaaETrB
namespace Go.Proofs.Ytkienpbmoilheaa
open Go.RowKit Go.Shelf
set_option linter.unusedSimpArgs false
set_option linter.unusedVariables false
attribute [local go_sem] Oper.semAt_some

/-- Every block below n but b is as it was. -/
structure BB (n b : Nat) (A B : World) : Prop where
  os : B.os = A.os
  tape : B.tape = A.tape
  output : B.output = A.output
  size : A.heap.size ≤ B.heap.size
  block : ∀ k, k < n → k ≠ b → B.heap[k]? = A.heap[k]?
theorem BB.refl (n b : Nat) (A : World) : BB n b A A := ⟨rfl, rfl, rfl, Nat.le_refl _, fun _ _ _ => rfl⟩
theorem BB.trans {n b : Nat} {A B C : World} (h : BB n b A B) (k : BB n b B C) : BB n b A C :=
  ⟨k.os.trans h.os, k.tape.trans h.tape, k.output.trans h.output, Nat.le_trans h.size k.size, fun i hi hb => (k.block i hi hb).trans (h.block i hi hb)⟩
theorem BB.of_below {n b : Nat} {A B : World} (h : Below n A B) : BB n b A B := ⟨h.os, h.tape, h.output, h.size, fun k hk _ => h.block k hk⟩
theorem BB.below {n b m : Nat} {A B : World} (h : BB n b A B) (h1 : m ≤ n) (h2 : m ≤ b) : Below m A B := ⟨h.os, h.tape, h.output, h.size, fun k hk => h.block k (by omega) (by omega)⟩
theorem BB.grown {n b : Nat} {A B C : World} (h : BB n b A B) {row : Option Nat} (hg : B.grownBy C row) (hn : n ≤ A.heap.size) (hr : ∀ k, row = some k → n ≤ k) : BB n b A C :=
  ⟨hg.os.trans h.os, hg.tape.trans h.tape, hg.output.trans h.output, Nat.le_trans h.size hg.size, fun k hk hb => (hg.block k (by have := h.size; omega) (fun e => by have := hr k e.symm; omega)).trans (h.block k hk hb)⟩
theorem BB.alloc {n b : Nat} {A B : World} (h : BB n b A B) (hn : n ≤ A.heap.size) (o : Obj) : BB n b A (B.alloc o) :=
  h.trans (BB.of_below ((Below.refl _ _).alloc (by have := h.size; omega) _))
theorem BB.cell {n b : Nat} {A B : World} (h : BB n b A B) {p : Addr} (h1 : p.block < n) (h2 : p.block ≠ b) : B.cell? p = A.cell? p := World.cell?_of_block (w := A) (h.block _ h1 h2)
theorem BB.set {n b : Nat} {A B : World} (h : BB n b A B) (o : Nat) (v : Value) : BB n b A (B.setCell ⟨b, o, none⟩ v) :=
  h.trans ⟨rfl, rfl, rfl, by simp [World.setCell], fun k _ hb => Below.heap_setCell _ _ _ _ hb⟩
theorem bbK_t {n b : Nat} {A B C : World} (h : BB n b A B) (k : BB n b B C) : BB n b A C := h.trans k
theorem bbK_b {n b : Nat} {w : World} (hn : n ≤ w.heap.size) (W : World) (l : Nat) (o o' : Obj) (hl : w.heap.size ≤ l) (h : W.heap[l]? = some o) (h1 : o.isCells = false) (h2 : o.isWalk = false) : BB n b W (W.putObj l o') :=
  BB.of_below (belowK_b hn W l o o' hl h h1 h2)
theorem ownFrom_bb {β : Type} {n b B : Nat} {w0 : World} (hn : n ≤ w0.heap.size) (hB : n ≤ B) : OwnFrom B (fun (_ : β) W => BB n b w0 W) :=
  fun _ _ _ _ hs hg hr => hs.grown hg hn (fun k e => Nat.le_trans hB (hr k e).1)
theorem PkC.bb {n b : Nat} {A B : World} {B0 off : Nat} {l : List Pk} (h : PkC A B0 off l) (hb : BB n b A B) (h1 : B0 < n) (h2 : B0 ≠ b) : PkC B B0 off l := h.of_block fun _ => hb.block _ h1 h2
theorem grown_new (W : World) (o : Obj) : W.grownBy (W.alloc o) none := ⟨rfl, rfl, rfl, by simp, fun k hk _ => Below.heap_alloc W _ k hk⟩

theorem sel_neg {fl : Int} (h : fl < -1) (l : List Pk) : sel fl l = [] := by
  unfold sel
  refine List.filter_eq_nil_iff.2 (fun q _ => ?_)
  unfold ofFlow
  simp; omega
theorem sel_take {fl : Int} {l : List Pk} {k : Nat} {q : Pk} (hq : l[k]? = some q) : sel fl (l.take (k + 1)) = if ofFlow fl q = true then sel fl (l.take k) ++ [q] else sel fl (l.take k) := by
  unfold sel
  rw [List.take_add_one, hq, List.filter_append]
  by_cases h : ofFlow fl q = true
  · rw [if_pos h]; simp [h]
  · rw [if_neg h]; simp [h]
theorem sel_le (fl : Int) (l : List Pk) : (sel fl l).length ≤ l.length := List.length_filter_le _ _

set_option maxRecDepth 100000 in
set_option maxHeartbeats 2000000 in
theorem packets1_in (F : Fence) (n : Nat) (hF : F.fn 294) (hro : F.round = none) (hn : 1 ≤ n) (l Bf Bs n0 b : Nat) (fl : Int) (a : Option Addr) (len cap : Nat) (lst : List Pk) (J Jx : List Pk → World → Prop)
    (hY : ∀ pre x W1, x ∈ lst → J pre W1 → pre.length < len → YieldAt F (n - 1) Try.prog l #[.agg #[.int .i64 x.f, .int .i64 x.t, .int .i64 x.s]] W1 fun e W' =>
      (e = .returned (.bool true) ∧ J (pre ++ [x]) W' ∧ BB n0 b W1 W') ∨ (e = .returned (.bool false) ∧ Jx (pre ++ [x]) W'))
    (W : World) (hJ : AbidesFrom W.heap.size J) (hn0 : n0 ≤ W.heap.size) (hf1 : Bf < n0) (hf2 : Bf ≠ b) (hs1 : Bs < n0) (hs2 : Bs ≠ b)
    (hcf : W.cell? ⟨Bf, 0, none⟩ = some (.int .i64 fl)) (hcs : W.cell? ⟨Bs, 0, none⟩ = some (.slice a len cap)) (hR : PkR W a len cap lst) (hR0 : ∀ B off, a = some ⟨B, off, none⟩ → 1 ≤ len → B < n0 ∧ B ≠ b) (h0 : J [] W) :
    CallsIn F n Try.prog 294 #[.func (.yield l) #[] #[], .pointer (some ⟨Bf, 0, none⟩), .pointer (some ⟨Bs, 0, none⟩)] W fun e W' => (∃ v, e = .returned v) ∧
      ((∃ ys, ys = sel fl lst ∧ J ys W') ∨ (∃ pre, (∃ k, k ≤ len ∧ pre = sel fl (lst.take k)) ∧ Jx pre W')) := by
  have HR := Lib.hid (And.intro hR (And.intro hR0 hJ))
  have HN := Lib.hid (And.intro (And.intro hf1 hf2) (And.intro hs1 hs2))
  have HY := Lib.hid hY
  have hsm := hR.sm
  clear hR hR0 hJ hf1 hf2 hs1 hs2 hY
  refine callsIn_of_wp Try.func294 rfl hF ?_ hro
  simp only [Try.ntmps294, List.size_toArray, List.length_cons, List.length_nil, Nat.reduceAdd, Nat.reduceSub, Array.replicate_succ, Array.replicate_zero, List.push_toArray, List.append_toArray, List.nil_append, List.cons_append]
  by_cases hneg : fl < -1
  · gi_wp2
    refine bodyPost_ret (results_none rfl _ _ _) rfl ?_
    exact ⟨⟨_, rfl⟩, .inl ⟨_, (sel_neg hneg lst).symm, h0⟩⟩
  · have HNG := Lib.hid hneg
    gi_wp2
    gi_loopw [10] (fun i wr => ∃ k : Nat, k ≤ len ∧ i = .int .i64 k ∧ Hid (J (sel fl (lst.take k)) wr) ∧ Hid (BB n0 b W wr)) (fun i _ => len - (intOf i).toNat)
    case atStart => exact ⟨0, Nat.zero_le _, by go_num, h0, BB.refl _ _ _⟩
    case round =>
      obtain ⟨k, hk, rfl, hJs, HW⟩ := hrel
      obtain ⟨wk, rfl⟩ : ∃ u : World, u = wr := ⟨_, rfl⟩
      have cf : wk.cell? ⟨Bf, 0, none⟩ = some (.int .i64 fl) := (HW.out.cell HN.out.1.1 HN.out.1.2).trans hcf
      by_cases hlt : k < len
      · have hlI : (k : Int) < (len : Int) := by omega
        obtain ⟨B, off, q, ha, hc, hq, hbd⟩ := HR.out.1.at hlt
        obtain ⟨hB1, hB2⟩ := HR.out.2.1 B off ha (by omega)
        obtain ⟨c0, c1, c2⟩ := hc.bb HW.out hB1 hB2 k q hq
        have HQ := Lib.hid (And.intro hq (And.intro hB1 hB2))
        subst ha
        have hwB : wk.heap.size ≤ wk.heap.size := Nat.le_refl _
        have hJ2 := Lib.hid (HR.out.2.2 _ wk _ none hJs.out (grown_new wk (.cells #[.int .i64 q.f, .int .i64 q.t, .int .i64 q.s] 103)) (fun r e => by cases e))
        have HW2 := Lib.hid (HW.out.alloc hn0 (.cells #[.int .i64 q.f, .int .i64 q.t, .int .i64 q.s] 103))
        have cfA : (wk.alloc (.cells #[.int .i64 q.f, .int .i64 q.t, .int .i64 q.s] 103)).cell? ⟨Bf, 0, none⟩ = some (.int .i64 fl) := (HW2.out.cell HN.out.1.1 HN.out.1.2).trans hcf
        by_cases hof : ofFlow fl q = true
        · have hst := Lib.hid (sel_take (fl := fl) hq)
          have hst2 := Lib.hid (show sel fl (lst.take (k + 1)) = sel fl (lst.take k) ++ [q] from by rw [hst.out, if_pos hof])
          obtain ⟨fn, tmps, assign, body, hy, hRd⟩ := HY.out _ q _ (List.mem_of_getElem? hq) hJ2.out (by have := sel_le fl (lst.take k); rw [List.length_take] at this; omega)
          have hfl : fl = -1 ∨ q.f = fl := by
            unfold ofFlow at hof
            simp only [Bool.and_eq_true, Bool.or_eq_true, decide_eq_true_eq] at hof
            exact hof.2
          clear hq hc hbd hB1 hB2 hof hst
          by_cases hm : fl = -1
          · subst hm
            clear hfl
            gi_wp2
            refine hRd.mono ?_
            rintro e W3 (⟨rfl, hJ3, hk3⟩ | ⟨rfl, hJx3⟩)
            · have HK3 := Lib.hid (And.intro hJ3 hk3)
              clear hJ3 hk3
              gi_wp2
              go_roundw
              case rel => exact ⟨k + 1, by omega, by go_num, by rw [hst2.out]; exact HK3.out.1, HW2.out.trans HK3.out.2⟩
              case measure => first | (simp [intOf]; done) | (simp [intOf]; omega)
            · gi_wp2
              refine bodyPost_ret (results_none rfl _ _ _) rfl ?_
              exact ⟨⟨_, rfl⟩, .inr ⟨_, ⟨k + 1, by omega, hst2.out.symm⟩, hJx3⟩⟩
          · have hb1 : (fl == -1) = false := by simp [hm]
            have hb2 : (q.f == fl) = true := by rcases hfl with h | h; exact absurd h hm; simp [h]
            clear hfl
            gi_wp2
            refine hRd.mono ?_
            rintro e W3 (⟨rfl, hJ3, hk3⟩ | ⟨rfl, hJx3⟩)
            · have HK3 := Lib.hid (And.intro hJ3 hk3)
              clear hJ3 hk3
              gi_wp2
              go_roundw
              case rel => exact ⟨k + 1, by omega, by go_num, by rw [hst2.out]; exact HK3.out.1, HW2.out.trans HK3.out.2⟩
              case measure => first | (simp [intOf]; done) | (simp [intOf]; omega)
            · gi_wp2
              refine bodyPost_ret (results_none rfl _ _ _) rfl ?_
              exact ⟨⟨_, rfl⟩, .inr ⟨_, ⟨k + 1, by omega, hst2.out.symm⟩, hJx3⟩⟩
        · have hst2 := Lib.hid (show sel fl (lst.take (k + 1)) = sel fl (lst.take k) from by rw [sel_take (fl := fl) hq, if_neg hof])
          have hfl : ¬ fl = -1 ∧ ¬ q.f = fl := by
            have := HNG.out
            unfold ofFlow at hof
            simp only [Bool.and_eq_true, Bool.or_eq_true, decide_eq_true_eq] at hof
            omega
          have hb1 : (fl == -1) = false := by simp [hfl.1]
          have hb2 : (q.f == fl) = false := by simp [hfl.2]
          clear hq hc hbd hB1 hB2 hof hfl
          gi_wp2
          refine ⟨fun _ h => (by cases h), ?_⟩
          gi_wp2
          go_roundw
          case rel => exact ⟨k + 1, by omega, by go_num, by rw [hst2.out]; exact hJ2.out, HW2.out⟩
          case measure => first | (simp [intOf]; done) | (simp [intOf]; omega)
      · obtain rfl : k = len := by omega
        have hlI : ¬ (k : Int) < (k : Int) := by omega
        gi_wp2
        go_end0
        have hz := hJs.out
        rw [List.take_of_length_le (by rw [HR.out.1.len]; exact Nat.le_refl _)] at hz
        first | exact ⟨⟨_, rfl⟩, .inl ⟨_, rfl, hz⟩⟩ | exact ⟨⟨_, rfl⟩, .inl hz⟩
end Go.Proofs.Ytkienpbmoilheaa

namespace Go.Proofs.Ytkienpbmoilheaa
open Go.RowKit Go.Shelf
set_option linter.unusedSimpArgs false
set_option linter.unusedVariables false
attribute [local go_sem] Oper.semAt_some

set_option maxHeartbeats 400000 in
theorem packets_in (F : Fence) (n : Nat) (hF : F.fn 259) (hro : F.round = none) (a : Option Addr) (len cap : Nat) (fl : Int) (w : World) :
    CallsIn F n Try.prog 259 #[.slice a len cap, .int .i64 fl] w fun e w' => e = .returned (.func (.func 294) #[] #[.pointer (some ⟨w.heap.size + 1, 0, none⟩), .pointer (some ⟨w.heap.size, 0, none⟩)]) ∧ w' = (w.alloc (.cells #[.slice a len cap] 71)).alloc (.cells #[.int .i64 fl] 3) := by
  refine callsIn_of_wp Try.func259 rfl hF ?_ hro
  simp only [Try.ntmps259, List.size_toArray, List.length_cons, List.length_nil, Nat.reduceAdd, Nat.reduceSub, Array.replicate_succ, Array.replicate_zero, List.push_toArray, List.append_toArray, List.nil_append, List.cons_append]
  gi_wp2
  go_ret
  exact ⟨rfl, rfl⟩

theorem packets_stops (F : Fence) (n : Nat) (hF : F.fn 294) (hro : F.round = none) (hn : 1 ≤ n) (Bf Bs n0 b : Nat) (fl : Int) (a : Option Addr) (len cap : Nat) (lst : List Pk) (w : World) (hn0 : n0 ≤ w.heap.size)
    (hf1 : Bf < n0) (hf2 : Bf ≠ b) (hs1 : Bs < n0) (hs2 : Bs ≠ b) (hcf : w.cell? ⟨Bf, 0, none⟩ = some (.int .i64 fl)) (hcs : w.cell? ⟨Bs, 0, none⟩ = some (.slice a len cap)) (hR : PkR w a len cap lst) (hR0 : ∀ B off, a = some ⟨B, off, none⟩ → 1 ≤ len → B < n0 ∧ B ≠ b) :
    SeqStopsK F n Try.prog 294 #[.pointer (some ⟨Bf, 0, none⟩), .pointer (some ⟨Bs, 0, none⟩)] (fun x : Pk => #[.agg #[.int .i64 x.f, .int .i64 x.t, .int .i64 x.s]]) (BB n0 b) (fun ys => ys = sel fl lst) (fun pre => ∃ k, k ≤ len ∧ pre = sel fl (lst.take k)) len w := fun l J Jx W hW hJ _ hY h0 =>
  packets1_in F n hF hro hn l Bf Bs n0 b fl a len cap lst J Jx (fun pre x W1 _ hj hl => hY pre x W1 hj hl) W hJ (Nat.le_trans hn0 hW.size) hf1 hf2 hs1 hs2 ((hW.cell (p := ⟨Bf, 0, none⟩) (by show Bf < _; omega)).trans hcf) ((hW.cell (p := ⟨Bs, 0, none⟩) (by show Bs < _; omega)).trans hcs) (hR.under hW) hR0 h0

/-- What counts of a packet before the tick t. -/
def bytT (t : Int) (q : Pk) : Int := if q.t < t then q.s else 0
/-- The sum in a 64-bit number. -/
def bytW (t : Int) (l : List Pk) : Int := IntKind.i64.wrap (sumG (bytT t) l)

theorem wrap_add13 (a b : Int) : IntKind.i64.wrap (IntKind.i64.wrap a + b) = IntKind.i64.wrap (a + b) := by
  rw [IntKind.wrap_i64, IntKind.wrap_i64, IntKind.wrap_i64]; omega
theorem sumG_snoc (g : Pk → Int) (l : List Pk) (q : Pk) : sumG g (l ++ [q]) = sumG g l + g q := by rw [sumG_append]; simp [sumG]
theorem bytW_yes {t : Int} {l : List Pk} {q : Pk} (h : q.t < t) : bytW t (l ++ [q]) = IntKind.i64.wrap (bytW t l + q.s) := by
  unfold bytW; rw [sumG_snoc, wrap_add13]; unfold bytT; rw [if_pos h]
theorem bytW_no {t : Int} {l : List Pk} {q : Pk} (h : ¬ q.t < t) : bytW t (l ++ [q]) = bytW t l := by
  unfold bytW; rw [sumG_snoc]; unfold bytT; rw [if_neg h, Int.add_zero]
/-- A box that holds a packet. -/
def PkBox (W : World) (B : Nat) (q : Pk) : Prop := W.heap[B]? = some (.cells #[.int .i64 q.f, .int .i64 q.t, .int .i64 q.s] 103 (0, 0))
theorem PkBox.new (W : World) (q : Pk) : PkBox (W.alloc (.cells #[.int .i64 q.f, .int .i64 q.t, .int .i64 q.s] 103)) W.heap.size q := World.alloc_heap_new W _
theorem PkBox.cells {W : World} {B : Nat} {q : Pk} (h : PkBox W B q) : W.cell? ⟨B, 0, none⟩ = some (.int .i64 q.f) ∧ W.cell? ⟨B, 1, none⟩ = some (.int .i64 q.t) ∧ W.cell? ⟨B, 2, none⟩ = some (.int .i64 q.s) := by
  unfold PkBox at h
  exact ⟨by simp [World.cell?, h], by simp [World.cell?, h], by simp [World.cell?, h]⟩
theorem pkBox_own {β : Type} (B : Nat) (q : Pk) : Own (fun (_ : β) W => PkBox W B q) := fun s X Y row hs hg hrow => by
  show Y.heap[B]? = _
  have hlt : B < X.heap.size := (Array.getElem?_eq_some_iff.1 (show X.heap[B]? = _ from hs)).1
  rw [hg.block B hlt (fun e' => by obtain ⟨o, ho, hc⟩ := hrow B e'.symm; rw [show X.heap[B]? = _ from hs] at ho; cases ho; cases hc)]
  exact hs

set_option maxRecDepth 100000 in
set_option maxHeartbeats 2000000 in
theorem bytes_in (F : Fence) (n : Nat) (hF1 : F.fn 199) (hF2 : F.fn 259) (hF3 : F.fn 294) (hro : F.round = none) (hn : 6 ≤ n) (a : Option Addr) (len cap : Nat) (lst : List Pk) (fl t : Int) (w : World) (h : PkR w a len cap lst) :
    CallsIn F n Try.prog 199 #[.slice a len cap, .int .i64 fl, .int .i64 t] w fun e w' => e = .returned (.int .i64 (bytW t (sel fl lst))) ∧ Below w.heap.size w w' := by
  have H := Lib.hid h
  clear h
  have h1 : 1 ≤ n := by omega
  refine callsIn_of_wp_marks Try.func199 rfl hF1 ?_ hro
  simp only [Try.ntmps199, List.size_toArray, List.length_cons, List.length_nil, Nat.reduceAdd, Nat.reduceSub, Array.replicate_succ, Array.replicate_zero, List.push_toArray, List.append_toArray, List.nil_append, List.cons_append]
  gi_wp2_with (gi_at_call 259; refine (packets_in F (n - 1) hF2 hro _ _ _ _ _).mono ?_; rintro e w' ⟨rfl, rfl⟩)
  have bT := (((Boxed.new w 3 (.int .i64 t)).alloc (.cells #[.int .i64 0] 3)).alloc (.cells #[.slice a len cap] 71)).alloc (.cells #[.int .i64 fl] 3)
  have bS := ((Boxed.new (w.alloc (.cells #[.int .i64 t] 3)) 3 (.int .i64 0)).alloc (.cells #[.slice a len cap] 71)).alloc (.cells #[.int .i64 fl] 3)
  have bL := (Boxed.new ((w.alloc (.cells #[.int .i64 t] 3)).alloc (.cells #[.int .i64 0] 3)) 71 (.slice a len cap)).alloc (.cells #[.int .i64 fl] 3)
  have bF := Boxed.new (((w.alloc (.cells #[.int .i64 t] 3)).alloc (.cells #[.int .i64 0] 3)).alloc (.cells #[.slice a len cap] 71)) 3 (.int .i64 fl)
  simp only [World.size_alloc] at bS bL bF
  have hB0 : Below w.heap.size w ((((w.alloc (.cells #[.int .i64 t] 3)).alloc (.cells #[.int .i64 0] 3)).alloc (.cells #[.slice a len cap] 71)).alloc (.cells #[.int .i64 fl] 3)) := ((((Below.refl _ w).alloc (Nat.le_refl _) _).alloc (by simp) _).alloc (by simp; omega) _).alloc (by simp; omega) _
  have hsz : ((((w.alloc (.cells #[.int .i64 t] 3)).alloc (.cells #[.int .i64 0] 3)).alloc (.cells #[.slice a len cap] 71)).alloc (.cells #[.int .i64 fl] 3)).heap.size = w.heap.size + 4 := by simp
  obtain ⟨W0, hW0⟩ : ∃ W0, (((w.alloc (.cells #[.int .i64 t] 3)).alloc (.cells #[.int .i64 0] 3)).alloc (.cells #[.slice a len cap] 71)).alloc (.cells #[.int .i64 fl] 3) = W0 := ⟨_, rfl⟩
  rw [hW0] at bT bS bL bF hB0 hsz ⊢
  clear hW0
  refine wpIn_rangeFunc_ownH hro h1 (gf := 294) (lb := #[.pointer (some ⟨w.heap.size + 1 + 1 + 1, 0, none⟩), .pointer (some ⟨w.heap.size + 1 + 1, 0, none⟩)]) rfl hF3 (enters_of Try.func294 (by kernel_rfl) rfl)
    (packets_stops F (n - 1) hF3 hro (by omega) (w.heap.size + 1 + 1 + 1) (w.heap.size + 1 + 1) (w.heap.size + 4) (w.heap.size + 1) fl a len cap lst W0 (by omega) (by omega) (by omega) (by omega) (by omega) bF.cell bL.cell (H.out.under hB0)
      (fun B off ha hl => by
        rcases H.out.place with ⟨h0, _⟩ | ⟨B', off', ha', hc'⟩
        · omega
        · rw [ha] at ha'; cases ha'
          have := hc'.lt (List.getElem?_eq_getElem (show 0 < lst.length by rw [H.out.len]; omega))
          omega)) bbK_t (bbK_b (by omega)) (Below.refl _ _) (fun _ => rfl)
    (fun pre W => Boxed W (w.heap.size + 1) 3 (.int .i64 (bytW t pre)) ∧ BB (w.heap.size + 4) (w.heap.size + 1) W0 W)
    (fun _ _ _ => False)
    (OwnFrom.and (Own.from (boxed_own _ _ _) _) (ownFrom_bb (by omega) (by omega)))
    (fun _ _ _ _ _ hs _ _ => hs)
    ⟨bS, BB.refl _ _ _⟩
    (fun x a' W => ∃ Bx, w.heap.size + 3 < Bx ∧ PkBox W Bx x ∧ a' = { tmps := #[.slice a len cap, .int .i64 fl, .int .i64 t, undef, undef, .pointer (some ⟨w.heap.size, 0, none⟩), .int .i64 0, .pointer (some ⟨w.heap.size + 1, 0, none⟩), .pointer (some ⟨Bx, 0, none⟩), .slice a len cap, .int .i64 fl, .func (.func 294) #[] #[.pointer (some ⟨w.heap.size + 1 + 1 + 1, 0, none⟩), .pointer (some ⟨w.heap.size + 1 + 1, 0, none⟩)], .agg #[.int .i64 x.f, .int .i64 x.t, .int .i64 x.s], undef, undef, undef, undef, undef, undef, undef, undef, undef], defers := [] })
    (fun x a' _ X Y row hs hg hr => by obtain ⟨Bx, h1, h2, h3⟩ := hs; exact ⟨Bx, h1, pkBox_own (β := Unit) Bx x () X Y row h2 hg (fun r e => (hr r e).2), h3⟩)
    ?assign ?body ?done ?stop
  case assign =>
    rintro l pre x W K ⟨bS1, hB1⟩ hK
    gi_wp2
    have hz := hB1.size
    exact hK _ _ ((KeepsOthers.alloc _ _).from _) ((BB.refl _ _ _).alloc (by omega) _) ⟨bS1.alloc _, hB1.alloc (by omega) _⟩ ⟨W.heap.size, by omega, PkBox.new W x, rfl⟩
  case body =>
    rintro l pre x a' W hl ⟨r, hr⟩ ⟨bS1, hB1⟩ ⟨Bx, hBx, bX, rfl⟩ hlt
    have cT := (hB1.cell (p := ⟨w.heap.size, 0, none⟩) (by show w.heap.size < _; omega) (by show w.heap.size ≠ _; omega)).trans bT.cell
    have cS := bS1.cell
    have fS := bS1.frozen
    obtain ⟨x0, x1, x2⟩ := bX.cells
    have HBS := Lib.hid (And.intro bS1 hB1)
    clear bS1 hB1 bX hr hlt bT bS bL bF hB0
    by_cases hx : x.t < t
    · gi_wp2
      exact ⟨(KeepsOthers.setCell _ _ _).from _, (BB.refl _ _ _).set _ _, by rw [show bytW t (pre ++ [x]) = wrap64 (bytW t pre + x.s) from by rw [bytW_yes hx, IntWalk.i64_left]]; exact HBS.out.1.set _, HBS.out.2.set _ _⟩
    · gi_wp2
      exact ⟨(KeepsOthers.refl _).from _, BB.refl _ _ _, by rw [bytW_no (show ¬ x.t < t by omega)]; exact HBS.out.1, HBS.out.2⟩
  case done =>
    rintro D zs W hD rfl ⟨bS1, hB1⟩ hK
    have cS := bS1.cell
    gi_wp2
    refine ⟨by simp, .inl ⟨_, _, rfl, run_takeDeferred hK, ?_⟩⟩
    exact ⟨_, results_tmp rfl _ _ _, rfl, (hB0.trans (hB1.below (by omega) (by omega))).trans (belowK_b (w := w) (Nat.le_refl _) W D _ _ (by omega) hK rfl rfl)⟩
  case stop =>
    rintro D c pre W _ _ h _
    exact h.elim

/-- Bytes, of whatever list. -/
theorem bytes13 (a : Option Addr) (len cap : Nat) (lst : List Pk) (fl t v : Int) (hv : bytW t (sel fl lst) = v) (w : World) (h : PkR w a len cap lst) :
    Calls Try.prog 199 #[.slice a len cap, .int .i64 fl, .int .i64 t] w (Says (.int .i64 v) w) := by
  subst hv
  exact (callsIn_wide (n := 6)).1 (bytes_in Fence.wide 6 trivial trivial trivial rfl (Nat.le_refl _) a len cap lst fl t w h)
end Go.Proofs.Ytkienpbmoilheaa
