/- Contracts of package pointwise: paired. By the verifier's side. -/
import Derived.Test.YthljhddnfflpjaaHPwE
import Derived.Test.YthljhddnfflpjaaHKeepT
import Derived.Test.YthljhddnfflpjaaHPwOPwXR56MHpM
import Derived.Test.YthljhddnfflpjaaHCurWCurveNormalW
namespace Go.Proofs.Ythljhddnfflpjaa
open Go.RowKit
set_option linter.unusedSimpArgs false

theorem Good.norm_ex {zs : List Int} {p : Nat} {inc : Int} (g : Good zs p inc) : ∃ zs' p' inc', NormC zs p inc zs' p' inc' := by
  obtain ⟨s, q, c, hn⟩ := normOf_ex g.perAny g.p1
  exact ⟨_, _, _, (g.form (fun _ => rfl) hn).2.2.1⟩

section
variable {w : World} {fc : FuncId} {a1 a2 : Option Addr} {n1 cap1 p1 n2 cap2 p2 : Nat} {i1 i2 : Int} {z1 z2 : List Int} {u v : World}
theorem RowZ.far {w : World} {a : Option Addr} {n cap : Nat} {zs : List Int} (h : RowZ w a n cap zs) : ∀ x, a = some x → 1 ≤ n → x.block < w.heap.size := fun x hx hn => by
  obtain ⟨y, hy, hc⟩ := h.cell 0 (by omega)
  obtain rfl : x = y := Option.some.inj (hx.symm.trans hy)
  have := lt_of_cell hc
  rwa [add_block] at this

end

/-- A closure over a curve, as cells: what it reads is apart from the block b. -/
structure Far (B : Nat) (a : Option Addr) (n : Nat) (b : Nat) : Prop where
  h1 : ¬ B = b
  h2 : ¬ B + 1 = b
  h3 : ∀ x, a = some x → 1 ≤ n → ¬ x.block = b

theorem ClosP.store {w : World} {B : Nat} {a : Option Addr} {n cap : Nat} {zs : List Int} {p : Nat} {inc : Int} (h : ClosP w B a n cap zs p inc) {b : Nat} (hf : Far B a n b) (v : Value) : ClosP (w.setCell ⟨b, 0, none⟩ v) B a n cap zs p inc := by
  have hb : ∀ q o, ¬ q = b → (w.setCell ⟨b, 0, none⟩ v).cell? ⟨q, o, none⟩ = w.cell? ⟨q, o, none⟩ := fun q o hq => World.cell?_of_block (w := w) (a := ⟨q, o, none⟩) (Below.heap_setCell _ _ _ _ hq)
  exact ⟨(hb _ _ hf.h1).trans h.f0, (hb _ _ hf.h1).trans h.f1, (hb _ _ hf.h1).trans h.f2, (hb _ _ hf.h2).trans h.num, h.row.store (fun x hx hn => hf.h3 x hx hn) _ _, h.good⟩

end Go.Proofs.Ythljhddnfflpjaa

namespace Go.Proofs.Ythljhddnfflpjaa
open Go.RowKit
set_option linter.unusedSimpArgs false

/-- The curve in normal form with the values E is handed back, with no error. -/
def GivesOk (E : Nat → Option Int) (w : World) (e : Ending) (w' : World) : Prop :=
  ∃ (a : Option Addr) (n cap : Nat) (zs : List Int) (p : Nat) (inc : Int), e = .returned (.tuple #[curV a n cap p inc, .int .i64 0]) ∧ Below w.heap.size w w' ∧ RowZ w' a n cap zs ∧ EForm zs p inc E ∧ ∀ x, a = some x → w.heap.size ≤ x.block

theorem GivesE.ok {E : Nat → Option Int} (hc : ECan E) {w w' : World} {e : Ending} (h : GivesE E w e w') : GivesOk E w e w' := by
  obtain ⟨hb, ⟨a, n, cap, zs, p, inc, he, hr, hf, hx⟩ | ⟨_, hno⟩⟩ := h
  · exact ⟨a, n, cap, zs, p, inc, he, hb, hr, hf, hx⟩
  · exact absurd hc hno

theorem GivesE.to {E E' : Nat → Option Int} (h : E = E') {w w' : World} {e : Ending} (k : GivesE E w e w') : GivesE E' w e w' := h ▸ k

theorem GivesE.post {E : Nat → Option Int} {w w1 w2 : World} {b : Nat} (hB : Below w.heap.size w w1) (hb1 : w.heap.size ≤ b) (hb2 : b < w1.heap.size) (h2 : Below w1.heap.size w1 w2) {a : Option Addr} {n cap : Nat} {zs : List Int} {p : Nat} {inc : Int} (hr : RowZ w2 a n cap zs)
    (hx : ∀ x, a = some x → w1.heap.size ≤ x.block) (hf : EForm zs p inc E) :
    GivesE E w (.returned (.tuple #[curV a n cap p inc, .int .i64 0])) (((w2.setCell ⟨b, 0, none⟩ (.slice a n cap)).setCell ⟨b, 1, none⟩ (.int .i64 p)).setCell ⟨b, 2, none⟩ (.int .i64 inc)) := by
  have hne : ∀ x : Addr, a = some x → 1 ≤ n → x.block ≠ b := fun x h _ => by have := hx x h; omega
  exact ⟨below_set3 (hB.trans (h2.mono hB.size)) hb1 _ _ _, .inl ⟨a, n, cap, zs, p, inc, rfl, ((hr.store hne _ _).store hne _ _).store hne _ _, hf, fun x h => by have := hx x h; have := hB.size; omega⟩⟩

theorem GivesE.postNo {E : Nat → Option Int} {w w1 w2 : World} {b : Nat} (hB : Below w.heap.size w w1) (hb1 : w.heap.size ≤ b) (h2 : Below w1.heap.size w1 w2) (hno : ¬ ECan E) :
    GivesE E w (.returned (.tuple #[curV none 0 0 0 0, .int .i64 3])) (((w2.setCell ⟨b, 0, none⟩ (.slice none 0 0)).setCell ⟨b, 1, none⟩ (.int .i64 0)).setCell ⟨b, 2, none⟩ (.int .i64 0)) :=
  ⟨below_set3 (hB.trans (h2.mono hB.size)) hb1 _ _ _, .inr ⟨rfl, hno⟩⟩

/-- The least common multiple of the periods of the normal forms. -/
def LcmN (z1 : List Int) (p1 : Nat) (i1 : Int) (z2 : List Int) (p2 : Nat) (i2 : Int) (L : Nat) : Prop :=
  ∃ y1 q1 j1 y2 q2 j2, NormC z1 p1 i1 y1 q1 j1 ∧ NormC z2 p2 i2 y2 q2 j2 ∧ q1 / Nat.gcd q1 q2 * q2 = L

/-! ## The examples -/

/-! ## Boxes -/

/-- A curve in a box, and its list. -/
structure Bx (u : World) (F : Nat) (a : Option Addr) (n cap p : Nat) (inc : Int) (zs : List Int) : Prop where
  box : Cur3 u F (.slice a n cap) (.int .i64 p) (.int .i64 inc)
  row : RowZ u a n cap zs
theorem Bx.under {u v : World} {F : Nat} {a : Option Addr} {n cap p : Nat} {inc : Int} {zs : List Int} (h : Bx u F a n cap p inc zs) (hb : Below u.heap.size u v) : Bx v F a n cap p inc zs := ⟨h.box.below hb, h.row.under hb⟩
theorem Bx.new {w : World} {a : Option Addr} {n cap p : Nat} {inc : Int} {zs : List Int} (h : RowZ w a n cap zs) : Bx (w.alloc (.cells #[.slice a n cap, .int .i64 p, .int .i64 inc] 24)) w.heap.size a n cap p inc zs := ⟨Cur3.new _ _ _ _ _, h.alloc _⟩
theorem below_box {w : World} (o : Obj) : Below w.heap.size w (w.alloc o) := (Below.refl _ _).alloc (Nat.le_refl _) _

theorem EForm.good {zs : List Int} {p : Nat} {inc : Int} {E : Nat → Option Int} (h : EForm zs p inc E) : Good zs p inc := h.1
theorem EForm.val {zs : List Int} {p : Nat} {inc : Int} {E : Nat → Option Int} (h : EForm zs p inc E) : ∀ t, eC zs p inc t = E t := h.2.1

theorem EForm.at {zs : List Int} {p : Nat} {inc : Int} {E : Nat → Option Int} (h : EForm zs p inc E) {t : Nat} {x : Int} (hx : E t = some x) : atC zs p inc t = x := by
  rw [← enc_eC, h.2.1, hx]; rfl

end Go.Proofs.Ythljhddnfflpjaa
