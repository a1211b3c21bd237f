/- Contracts of package pointwise: Scale, Later, Ahead, Lower, Raise. By the verifier's side. -/
import Derived.Test.YtjipmkgnndldpaaHPwAPwBPwCPwD
import Derived.Test.YtjipmkgnndldpaaHBaseApartPickKeepS
import Derived.Laws.EntriesVeiled
namespace Go.Proofs.Ytjipmkgnndldpaa
open Go.RowKit
set_option linter.unusedSimpArgs false

/-- The curve in normal form with the values E is handed back, or the error that there is none. -/
def GivesE (E : Nat → Option Int) (w : World) (e : Ending) (w' : World) : Prop :=
  Below w.heap.size w w' ∧ ((∃ (a : Option Addr) (n cap : Nat) (zs : List Int) (p : Nat) (inc : Int), e = .returned (.tuple #[curV a n cap p inc, .int .i64 0]) ∧ RowZ w' a n cap zs ∧ EForm zs p inc E ∧ ∀ x, a = some x → w.heap.size ≤ x.block) ∨
    (e = .returned (.tuple #[curV none 0 0 0 0, .int .i64 3]) ∧ ¬ ECan E))

theorem GivesForm.toE {E : Nat → Option Int} (hT : Tame E) {w w' : World} {e : Ending} (h : GivesForm (encF E) w e w') : GivesE E w e w' := by
  obtain ⟨hb, ⟨a, n, cap, zs, p, inc, he, hr, hf, hx⟩ | ⟨he, hno⟩⟩ := h
  · exact ⟨hb, .inl ⟨a, n, cap, zs, p, inc, he, hr, eform_of hT hf, hx⟩⟩
  · exact ⟨hb, .inr ⟨he, fun h => hno h.can⟩⟩

/-- What stands behind the making of the normal form and of the closure of its values: the curve in box A, a number in box A + 1, the result in box A + 2, the closure in box bv. -/
structure One (w : World) (a : Option Addr) (n cap p : Nat) (inc x : Int) (zs : List Int) (bv B : Nat) (u : World) : Prop where
  cur : Cur3 u w.heap.size (.slice a n cap) (.int .i64 p) (.int .i64 inc)
  num : u.cell? ⟨w.heap.size + 1, 0, none⟩ = some (.int .i64 x)
  res : Cur3 u (w.heap.size + 2) (.slice none 0 0) (.int .i64 0) (.int .i64 0)
  clo : u.cell? ⟨bv, 0, none⟩ = some (closPV B)
  cl : ClosG 209 #[.pointer (some ⟨B + 1, 0, none⟩), .pointer (some ⟨B, 0, none⟩)] 4194304 (atC zs p inc) u
  row : RowZ u a n cap zs
  below : Below w.heap.size w u

theorem One.call {w : World} {a : Option Addr} {n cap p : Nat} {inc x : Int} {zs : List Int} {bv B : Nat} {u v : World} (h : One w a n cap p inc x zs bv B u) (hb : Below u.heap.size u v) : One w a n cap p inc x zs bv B v :=
  ⟨h.cur.below hb, (hb.cell (lt_of_cell h.num)).trans h.num, h.res.below hb, (hb.cell (lt_of_cell h.clo)).trans h.clo, h.cl.above hb, h.row.under hb, h.below.trans (hb.mono h.below.size)⟩

end Go.Proofs.Ytjipmkgnndldpaa
