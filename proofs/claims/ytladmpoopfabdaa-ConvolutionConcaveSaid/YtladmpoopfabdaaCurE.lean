/- Contracts: curve.reduced, curve.Normal. By the verifier's side. -/
import Derived.Test.YtladmpoopfabdaaCurD
namespace Go.Proofs.Ytladmpoopfabdaa
open Go.RowKit
set_option linter.unusedSimpArgs false

theorem RowZ.take {w : World} {a : Option Addr} {n cap : Nat} {zs : List Int} (h : RowZ w a n cap zs) (m : Nat) (hm : m ≤ n) : RowZ w a m cap (zs.take m) := by
  have hl := h.len
  have hle := h.le
  have hsm := h.sm
  refine ⟨by rw [List.length_take]; omega, by omega, by omega, h.cm, fun i hi => ?_, fun i hi => ?_⟩
  · rw [getD_take hi]; exact h.cell i (by omega)
  · rw [getD_take hi]; exact h.bd i (by omega)

/-- The normal form of a curve is handed back, in memory of the call's own. -/
def GivesNorm (zs : List Int) (p : Nat) (inc : Int) (w : World) (e : Ending) (w' : World) : Prop :=
  ∃ a n cap zs' p' inc', e = .returned (curV a n cap (p' : Nat) inc') ∧ Below w.heap.size w w' ∧ RowZ w' a n cap zs' ∧ NormC zs p inc zs' p' inc' ∧ ∀ x, a = some x → w.heap.size ≤ x.block

theorem norm_post {w w2 : World} {b : Nat} (hb : Below w.heap.size w w2) (hwb : w.heap.size ≤ b) {a : Option Addr} {n cap : Nat} {zs' : List Int} (hr : RowZ w2 a n cap zs') (hlt : ∀ x, a = some x → b < x.block) (p' : Nat) (inc' : Int)
    {zs : List Int} {p : Nat} {inc : Int} (hn : NormC zs p inc zs' p' inc') :
    GivesNorm zs p inc w (.returned (curV a n cap p' inc')) (((w2.setCell ⟨b, 0, none⟩ (.slice a n cap)).setCell ⟨b, 1, none⟩ (.int .i64 p')).setCell ⟨b, 2, none⟩ (.int .i64 inc')) :=
  ⟨a, n, cap, zs', p', inc', rfl, below_set3 hb hwb _ _ _, ((hr.store (fun x h _ => Nat.ne_of_gt (hlt x h)) _ _).store (fun x h _ => Nat.ne_of_gt (hlt x h)) _ _).store (fun x h _ => Nat.ne_of_gt (hlt x h)) _ _, hn, fun x h => Nat.le_trans hwb (Nat.le_of_lt (hlt x h))⟩

set_option maxHeartbeats 1600000 in
theorem reduced_inf (a : Option Addr) (n cap : Nat) (zs : List Int) (p : Nat) (inc : Int) (g : Good zs p inc) (i : Nat) (hi : i < zs.length) (hz : zs.getD i 0 = infV) (hj : ∀ j, j < i → ¬ zs.getD j 0 = infV) (w : World) (h : RowZ w a n cap zs) :
    Calls Try.prog 113 #[curV a n cap p inc] w (GivesNorm zs p inc w) := by
  have hB : Below w.heap.size w ((w.alloc (.cells #[.slice a n cap, .int .i64 p, .int .i64 inc] 24)).alloc (.cells #[.slice none 0 0, .int .i64 0, .int .i64 0] 24)) :=
    ((Below.refl _ _).alloc (Nat.le_refl _) _).alloc (by simp) _
  have HB := Lib.hid hB
  have H := Lib.hid (h.under hB)
  have hlen := h.len
  have hcap := h.le
  have hcm := h.cm
  have hfew := g.few
  obtain ⟨x, rfl, _⟩ := h.cell i (by omega)
  have I := Lib.hid (And.intro hi (And.intro hz hj))
  have hin : i < n := by omega
  have hn : n ≤ 400 := by omega
  have HL := Lib.hid hlen
  clear hi hz hj h hB hlen hfew g
  go_enter Try.func113, Try.ntmps113
  go_wp2_with fail
  refine (index_any (some x) n cap zs _ _ H.out).mono ?_
  intro e w1 hx
  obtain ⟨rfl, rfl⟩ : e = .returned (.int .i64 i) ∧ w1 = ((w.alloc (.cells #[.slice (some x) n cap, .int .i64 p, .int .i64 inc] 24)).alloc (.cells #[.slice none 0 0, .int .i64 0, .int .i64 0] 24)) := by
    rcases hx with ⟨_, _, h3⟩ | ⟨j, h1, h2, h3, h4, h5⟩
    · exact absurd I.out.2.1 (h3 i I.out.1)
    · have e1 : i = j := by
        rcases Nat.lt_trichotomy i j with hl | he | hl
        · exact absurd I.out.2.1 (h5 i hl)
        · exact he
        · exact absurd h4 (I.out.2.2 j hl)
      subst e1
      exact ⟨h1, h2.symm⟩
  clear hx
  have hcm2 : (cap : Int) ≤ 9223372036854775807 := by omega
  have hic : (i : Int) + 1 ≤ (cap : Int) := by omega
  go_wp2_with fail
  refine (clone_any x (i + 1) cap (zs.take (i + 1)) _ (H.out.take (i + 1) hin) (by omega)).mono ?_
  rintro e w2 ⟨a2, c2, rfl, hb2, hr2, hx2⟩
  obtain ⟨c0, c1, c2', f0, f1, f2⟩ := (Cur3.new2 w (.slice none 0 0) (.int .i64 0) (.int .i64 0) 24 (.cells #[.slice (some x) n cap, .int .i64 p, .int .i64 inc] 24)).below hb2
  have HP := Lib.hid (norm_post (b := w.heap.size + 1) (HB.out.trans (hb2.mono HB.out.size)) (Nat.le_succ _) hr2 (fun y hy => by have := hx2 y hy; simp at this; omega) 1 0 (.inr ⟨i, I.out.1, I.out.2.1, I.out.2.2, rfl, rfl, rfl⟩) (zs := zs) (p := p) (inc := inc))
  clear hb2 hr2 hx2
  go_wp2_with fail
  exact bodyPost_ret (v := curV a2 (i + 1) c2 1 0) (by simp [results, Try.results113, go_sem, c0, c1, c2']) rfl HP.out

end Go.Proofs.Ytladmpoopfabdaa
