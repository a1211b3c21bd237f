/- Contracts of the reader of numbers: Pick. By the verifier's side. -/
import Derived.Test.YtjjaaknjdmijbaaQcBaseApart
namespace Go.Proofs.Ytjjaaknjdmijbaa
open Go.RowKit
set_option linter.unusedSimpArgs false

/-- A number is handed back; of the elder blocks only the reader's has turned. -/
def Takes (P : Int → Prop) (b : Nat) (a : Option Addr) (n cap : Nat) (w : World) (e : Ending) (w' : World) : Prop :=
  ∃ z : Int, P z ∧ e = .returned (.int .i64 z) ∧ SrcAt w' b a n cap ∧ Apart b w w'

set_option maxHeartbeats 800000 in
theorem pick_of (P : Int → Prop) (hP : ∀ z, P z → In64 z) (lb len lc : Nat) (h1 : 1 ≤ len) (h2 : len ≤ 1000000) (b : Nat) (hb : lb ≠ b) (a : Option Addr) (n cap : Nat) (w : World) (h : SrcAt w b a n cap)
    (hl : ∀ i, i < len → ∃ z, w.cell? ⟨lb, i, none⟩ = some (.int .i64 z) ∧ P z) :
    Calls Try.prog 62 #[.pointer (some ⟨b, 0, none⟩), .slice (some ⟨lb, 0, none⟩) len lc] w (Takes P b a n cap w) := by
  have HS := Lib.hid h
  have HL := Lib.hid hl
  clear h hl
  go_enter Try.func62, Try.ntmps62
  go_wp2_with fail
  refine (n_any _ (by omega) (by omega) b a n cap _ HS.out).mono ?_
  rintro e w1 ⟨r, hr, rfl, hs, he⟩
  have HS1 := Lib.hid hs
  have HE1 := Lib.hid he
  clear hs he
  obtain ⟨k, rfl⟩ := Int.eq_ofNat_of_zero_le hr.1
  have hk : k < len := by omega
  obtain ⟨z, hz, hzi⟩ := HL.out k hk
  have hc : w1.cell? ⟨lb, k, none⟩ = some (.int .i64 z) := (HE1.out.cell (p := ⟨lb, k, none⟩) hb).trans hz
  have HZ := Lib.hid hzi
  have hzb := hP z hzi
  clear hz hzi
  go_wp2_with fail
  go_ret
  exact ⟨z, HZ.out, rfl, HS1.out, HE1.out.apart⟩

theorem list_newP (P : Int → Prop) (w : World) (xs : List Int) (t : TypeId) (h : ∀ z ∈ xs, P z) : ∀ i, i < xs.length → ∃ z, (w.alloc (.cells (xs.map (Value.int .i64)).toArray t)).cell? ⟨w.heap.size, i, none⟩ = some (.int .i64 z) ∧ P z := by
  intro i hi
  refine ⟨xs[i], ?_, h _ (List.getElem_mem hi)⟩
  rw [World.cell?_alloc_new]
  simp [hi]

end Go.Proofs.Ytjjaaknjdmijbaa
