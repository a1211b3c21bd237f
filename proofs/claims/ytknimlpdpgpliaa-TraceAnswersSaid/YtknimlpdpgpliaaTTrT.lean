/- The chapter's example. By the verifier's side. -/
import Derived.Test.YtknimlpdpgpliaaTTrS
namespace Go.Proofs.Ytknimlpdpgpliaa
open Go.RowKit
set_option linter.unusedSimpArgs false
set_option linter.unusedVariables false

/-- A block that lists packets. -/
theorem pkR_new {w : World} {l : List Pk} {cs : Array Value} {t : TypeId} (hn : l.length ≤ 1000000) (hl : ∀ q ∈ l, Pk64 q) (hc : ∀ i q, l[i]? = some q → cs[i * 3]? = some (.int .i64 q.f) ∧ cs[i * 3 + 1]? = some (.int .i64 q.t) ∧ cs[i * 3 + 2]? = some (.int .i64 q.s)) :
    PkR (w.alloc (.cells cs t)) (some ⟨w.heap.size, 0, none⟩) l.length l.length l :=
  ⟨rfl, Nat.le_refl _, hn, by omega, .inr ⟨_, 0, rfl, fun i q hq => by
    obtain ⟨h1, h2, h3⟩ := hc i q hq
    rw [Nat.zero_add]
    exact ⟨cell_new13 h1, cell_new13 h2, cell_new13 h3⟩⟩, hl⟩

def exL : List Pk := [⟨0, 0, 10⟩, ⟨1, 0, 20⟩, ⟨0, 2, 5⟩]
def exM : List Pk := [⟨0, 0, 3⟩]
theorem exL_new (w : World) (t : TypeId) : PkR (w.alloc (.cells #[.int .i64 0, .int .i64 0, .int .i64 10, .int .i64 1, .int .i64 0, .int .i64 20, .int .i64 0, .int .i64 2, .int .i64 5] t)) (some ⟨w.heap.size, 0, none⟩) 3 3 exL :=
  pkR_new (l := exL) (by decide) (fun q hq => by
    unfold exL at hq
    simp only [List.mem_cons, List.not_mem_nil, or_false] at hq
    rcases hq with rfl | rfl | rfl <;> exact ⟨⟨by decide, by decide⟩, ⟨by decide, by decide⟩, ⟨by decide, by decide⟩⟩) (fun i q hq => by
    rcases i with _ | _ | _ | i
    · cases hq; exact ⟨rfl, rfl, rfl⟩
    · cases hq; exact ⟨rfl, rfl, rfl⟩
    · cases hq; exact ⟨rfl, rfl, rfl⟩
    · cases hq)
theorem exM_new (w : World) (t : TypeId) : PkR (w.alloc (.cells #[.int .i64 0, .int .i64 0, .int .i64 3] t)) (some ⟨w.heap.size, 0, none⟩) 1 1 exM :=
  pkR_new (l := exM) (by decide) (fun q hq => by
    unfold exM at hq
    simp only [List.mem_cons, List.not_mem_nil, or_false] at hq
    rcases hq with rfl <;> exact ⟨⟨by decide, by decide⟩, ⟨by decide, by decide⟩, ⟨by decide, by decide⟩⟩) (fun i q hq => by
    rcases i with _ | i
    · cases hq; exact ⟨rfl, rfl, rfl⟩
    · cases hq)
theorem rowZ_four {w : World} {x0 x1 x2 x3 : Int} {t : TypeId} (h0 : In64 x0) (h1 : In64 x1) (h2 : In64 x2) (h3 : In64 x3) : RowZ (w.alloc (.cells #[.int .i64 x0, .int .i64 x1, .int .i64 x2, .int .i64 x3] t)) (some ⟨w.heap.size, 0, none⟩) 4 4 [x0, x1, x2, x3] :=
  ⟨rfl, Nat.le_refl _, by omega, by omega, fun i hi => ⟨_, rfl, by
    have ea : ((⟨w.heap.size, 0, none⟩ : Addr).add i) = ⟨w.heap.size, i, none⟩ := by unfold Addr.add; split <;> simp_all
    rw [ea]
    have : i = 0 ∨ i = 1 ∨ i = 2 ∨ i = 3 := by omega
    rcases this with rfl | rfl | rfl | rfl <;> exact cell_new13 rfl⟩, fun i hi => by
    have : i = 0 ∨ i = 1 ∨ i = 2 ∨ i = 3 := by omega
    rcases this with rfl | rfl | rfl | rfl
    · exact h0
    · exact h1
    · exact h2
    · exact h3⟩

theorem exM_sum : bytW 1 (sel (-1) exM) = 3 := by
  unfold bytW
  rw [show sumG (bytT 1) (sel (-1) exM) = 3 by decide]
  exact IntWalk.i64_in _ ⟨by decide, by decide⟩

set_option maxRecDepth 100000 in
set_option maxHeartbeats 1600000 in
theorem awake13 (w : World) : Calls Try.prog 32 #[] w (Says (.bool true) w) := by
  go_enter Try.func32, Try.ntmps32
  go_wp2_with fail
  refine (cumulative13 _ 3 3 exL 0 3 0 (by decide) [0, 10, 10, 15] (by decide) _ (exL_new w _)).mono ?_
  rintro e w1 ⟨a1, n1, c1, rfl, hb, hr, hx⟩
  have HB := Lib.hid (((Below.refl _ w).alloc (Nat.le_refl _) _).trans (hb.mono (by simp)))
  have HR := Lib.hid hr
  clear hb hr hx
  go_wp2_with fail
  refine (rints5_any a1 n1 c1 [0, 10, 10, 15] _ 4 4 [0, 10, 10, 15] true (by decide) _ (HR.out.under ((Below.refl _ _).alloc (Nat.le_refl _) _)) (rowZ_four ⟨by decide, by decide⟩ ⟨by decide, by decide⟩ ⟨by decide, by decide⟩ ⟨by decide, by decide⟩)).mono ?_
  rintro e w2 ⟨rfl, q, hw2⟩
  have hz := HB.out.size
  have HB2 := Lib.hid (show Below w.heap.size w w2 from by rw [hw2]; exact (HB.out.alloc (by omega) _).drewN q)
  clear hw2 hz
  go_wp2_with fail
  refine (bytes13 _ 1 1 exM (-1) 1 3 exM_sum _ (exM_new _ _)).mono ?_
  rintro e w3 ⟨rfl, hb3⟩
  have hz := HB2.out.size
  have HB3 := Lib.hid ((HB2.out.alloc (by omega) _).trans (hb3.mono (by simp; omega)))
  clear hb3
  go_wp2_with fail
  go_ret
  exact ⟨rfl, HB3.out⟩
end Go.Proofs.Ytknimlpdpgpliaa
