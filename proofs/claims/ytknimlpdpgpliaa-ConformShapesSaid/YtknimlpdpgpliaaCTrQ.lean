/- Bytes and Cumulative of package trace. By the verifier's side. -/
import Derived.Test.YtknimlpdpgpliaaCTrP
import Derived.Test.YtknimlpdpgpliaaCTrB
namespace Go.Proofs.Ytknimlpdpgpliaa
open Go.RowKit Go.Shelf
set_option linter.unusedSimpArgs false
set_option linter.unusedVariables false
attribute [local go_sem] Oper.semAt_some

set_option maxHeartbeats 400000 in
theorem packets_in (F : Fence) (n : Nat) (hF : F.fn 94) (hro : F.round = none) (a : Option Addr) (len cap : Nat) (fl : Int) (w : World) :
    CallsIn F n Try.prog 94 #[.slice a len cap, .int .i64 fl] w fun e w' => e = .returned (.func (.func 149) #[] #[.pointer (some ⟨w.heap.size + 1, 0, none⟩), .pointer (some ⟨w.heap.size, 0, none⟩)]) ∧ w' = (w.alloc (.cells #[.slice a len cap] 45)).alloc (.cells #[.int .i64 fl] 3) := by
  refine callsIn_of_wp Try.func94 rfl hF ?_ hro
  simp only [Try.ntmps94, List.size_toArray, List.length_cons, List.length_nil, Nat.reduceAdd, Nat.reduceSub, Array.replicate_succ, Array.replicate_zero, List.push_toArray, List.append_toArray, List.nil_append, List.cons_append]
  gi_wp2
  go_ret
  exact ⟨rfl, rfl⟩

theorem packets_stops (F : Fence) (n : Nat) (hF : F.fn 149) (hro : F.round = none) (hn : 1 ≤ n) (Bf Bs n0 b : Nat) (fl : Int) (a : Option Addr) (len cap : Nat) (lst : List Pk) (w : World) (hn0 : n0 ≤ w.heap.size)
    (hf1 : Bf < n0) (hf2 : Bf ≠ b) (hs1 : Bs < n0) (hs2 : Bs ≠ b) (hcf : w.cell? ⟨Bf, 0, none⟩ = some (.int .i64 fl)) (hcs : w.cell? ⟨Bs, 0, none⟩ = some (.slice a len cap)) (hR : PkR w a len cap lst) (hR0 : ∀ B off, a = some ⟨B, off, none⟩ → 1 ≤ len → B < n0 ∧ B ≠ b) :
    SeqStopsK F n Try.prog 149 #[.pointer (some ⟨Bf, 0, none⟩), .pointer (some ⟨Bs, 0, none⟩)] (fun x : Pk => #[.agg #[.int .i64 x.f, .int .i64 x.t, .int .i64 x.s]]) (BB n0 b) (fun ys => ys = sel fl lst) (fun pre => ∃ k, k ≤ len ∧ pre = sel fl (lst.take k)) len w := fun l J Jx W hW hJ _ hY h0 =>
  packets1_in F n hF hro hn l Bf Bs n0 b fl a len cap lst J Jx (fun pre x W1 _ hj hl => hY pre x W1 hj hl) W hJ (Nat.le_trans hn0 hW.size) hf1 hf2 hs1 hs2 ((hW.cell (p := ⟨Bf, 0, none⟩) (by show Bf < _; omega)).trans hcf) ((hW.cell (p := ⟨Bs, 0, none⟩) (by show Bs < _; omega)).trans hcs) (hR.under hW) hR0 h0

theorem sumG_snoc (g : Pk → Int) (l : List Pk) (q : Pk) : sumG g (l ++ [q]) = sumG g l + g q := by rw [sumG_append]; simp [sumG]
/-- A box that holds a packet. -/
def PkBox (W : World) (B : Nat) (q : Pk) : Prop := W.heap[B]? = some (.cells #[.int .i64 q.f, .int .i64 q.t, .int .i64 q.s] 76 (0, 0))
theorem PkBox.new (W : World) (q : Pk) : PkBox (W.alloc (.cells #[.int .i64 q.f, .int .i64 q.t, .int .i64 q.s] 76)) W.heap.size q := World.alloc_heap_new W _
theorem PkBox.cells {W : World} {B : Nat} {q : Pk} (h : PkBox W B q) : W.cell? ⟨B, 0, none⟩ = some (.int .i64 q.f) ∧ W.cell? ⟨B, 1, none⟩ = some (.int .i64 q.t) ∧ W.cell? ⟨B, 2, none⟩ = some (.int .i64 q.s) := by
  unfold PkBox at h
  exact ⟨by simp [World.cell?, h], by simp [World.cell?, h], by simp [World.cell?, h]⟩
theorem pkBox_own {β : Type} (B : Nat) (q : Pk) : Own (fun (_ : β) W => PkBox W B q) := fun s X Y row hs hg hrow => by
  show Y.heap[B]? = _
  have hlt : B < X.heap.size := (Array.getElem?_eq_some_iff.1 (show X.heap[B]? = _ from hs)).1
  rw [hg.block B hlt (fun e' => by obtain ⟨o, ho, hc⟩ := hrow B e'.symm; rw [show X.heap[B]? = _ from hs] at ho; cases ho; cases hc)]
  exact hs

end Go.Proofs.Ytknimlpdpgpliaa
