/- Contracts of package pointwise: paired. By the verifier's side. -/
import Derived.Test.YtombgfpheiopgaaEPwE
import Derived.Test.YtombgfpheiopgaaProg
import Derived.WalkKit
import Derived.Deep.RegionHeld3
import Derived.StillTail
import Derived.Deep.DrawnRows
namespace Go.Proofs.Ytombgfpheiopgaa
open Go.RowKit
set_option linter.unusedSimpArgs false

theorem Good.norm_ex {zs : List Int} {p : Nat} {inc : Int} (g : Good zs p inc) : ∃ zs' p' inc', NormC zs p inc zs' p' inc' := by
  obtain ⟨s, q, c, hn⟩ := normOf_ex g.perAny g.p1
  exact ⟨_, _, _, (g.form (fun _ => rfl) hn).2.2.1⟩

/-- What stands in paired: the two curves in boxes A and A + 1, the choice in A + 2, the result in A + 3. -/
structure Two2 (w : World) (fc : FuncId) (a1 : Option Addr) (n1 cap1 p1 : Nat) (i1 : Int) (z1 : List Int) (a2 : Option Addr) (n2 cap2 p2 : Nat) (i2 : Int) (z2 : List Int) (u : World) : Prop where
  c1 : Cur3 u w.heap.size (.slice a1 n1 cap1) (.int .i64 p1) (.int .i64 i1)
  c2 : Cur3 u (w.heap.size + 1) (.slice a2 n2 cap2) (.int .i64 p2) (.int .i64 i2)
  ch : u.cell? ⟨w.heap.size + 2, 0, none⟩ = some (.func (.func fc) #[] #[])
  res : Cur3 u (w.heap.size + 3) (.slice none 0 0) (.int .i64 0) (.int .i64 0)
  r1 : RowZ u a1 n1 cap1 z1
  r2 : RowZ u a2 n2 cap2 z2
  f1 : ∀ x, a1 = some x → 1 ≤ n1 → x.block < w.heap.size ∨ w.heap.size + 3 < x.block
  f2 : ∀ x, a2 = some x → 1 ≤ n2 → x.block < w.heap.size ∨ w.heap.size + 3 < x.block
  below : Below w.heap.size w u

section
variable {w : World} {fc : FuncId} {a1 a2 : Option Addr} {n1 cap1 p1 n2 cap2 p2 : Nat} {i1 i2 : Int} {z1 z2 : List Int} {u v : World}
theorem Two2.call (h : Two2 w fc a1 n1 cap1 p1 i1 z1 a2 n2 cap2 p2 i2 z2 u) (hb : Below u.heap.size u v) : Two2 w fc a1 n1 cap1 p1 i1 z1 a2 n2 cap2 p2 i2 z2 v :=
  ⟨h.c1.below hb, h.c2.below hb, (hb.cell (lt_of_cell h.ch)).trans h.ch, h.res.below hb, h.r1.under hb, h.r2.under hb, h.f1, h.f2, h.below.trans (hb.mono h.below.size)⟩

theorem RowZ.far {w : World} {a : Option Addr} {n cap : Nat} {zs : List Int} (h : RowZ w a n cap zs) : ∀ x, a = some x → 1 ≤ n → x.block < w.heap.size := fun x hx hn => by
  obtain ⟨y, hy, hc⟩ := h.cell 0 (by omega)
  obtain rfl : x = y := Option.some.inj (hx.symm.trans hy)
  have := lt_of_cell hc
  rwa [add_block] at this

end

theorem ChG.at {fc : FuncId} {ch : Int → Int → Int} (h : ChG fc ch) {x y : Int} (hx : Mid x) (hy : Mid y) (w : World) : Calls Try.prog fc #[.int .i64 x, .int .i64 y] w fun e w' => e = .returned (.int .i64 (ch x y)) ∧ w' = w := h x y w hx hy

/-- The closures of the values of both curves. -/
structure Clo2 (w : World) (b1 b2 B1 B2 : Nat) (f1 f2 : Nat → Int) (u : World) : Prop where
  v1 : u.cell? ⟨b1, 0, none⟩ = some (.func (.func 187) #[] #[.pointer (some ⟨B1 + 1, 0, none⟩), .pointer (some ⟨B1, 0, none⟩)])
  v2 : u.cell? ⟨b2, 0, none⟩ = some (.func (.func 187) #[] #[.pointer (some ⟨B2 + 1, 0, none⟩), .pointer (some ⟨B2, 0, none⟩)])
  k1 : ClosG 187 #[.pointer (some ⟨B1 + 1, 0, none⟩), .pointer (some ⟨B1, 0, none⟩)] 4194304 f1 u
  k2 : ClosG 187 #[.pointer (some ⟨B2 + 1, 0, none⟩), .pointer (some ⟨B2, 0, none⟩)] 4194304 f2 u
theorem Clo2.call {w : World} {b1 b2 B1 B2 : Nat} {f1 f2 : Nat → Int} {u v : World} (h : Clo2 w b1 b2 B1 B2 f1 f2 u) (hb : Below u.heap.size u v) : Clo2 w b1 b2 B1 B2 f1 f2 v :=
  ⟨(hb.cell (lt_of_cell h.v1)).trans h.v1, (hb.cell (lt_of_cell h.v2)).trans h.v2, h.k1.above hb, h.k2.above hb⟩

/-- A closure over a curve, as cells: what it reads is apart from the block b. -/
structure Far (B : Nat) (a : Option Addr) (n : Nat) (b : Nat) : Prop where
  h1 : ¬ B = b
  h2 : ¬ B + 1 = b
  h3 : ∀ x, a = some x → 1 ≤ n → ¬ x.block = b

theorem ClosP.store {w : World} {B : Nat} {a : Option Addr} {n cap : Nat} {zs : List Int} {p : Nat} {inc : Int} (h : ClosP w B a n cap zs p inc) {b : Nat} (hf : Far B a n b) (v : Value) : ClosP (w.setCell ⟨b, 0, none⟩ v) B a n cap zs p inc := by
  have hb : ∀ q o, ¬ q = b → (w.setCell ⟨b, 0, none⟩ v).cell? ⟨q, o, none⟩ = w.cell? ⟨q, o, none⟩ := fun q o hq => World.cell?_of_block (w := w) (a := ⟨q, o, none⟩) (Below.heap_setCell _ _ _ _ hq)
  exact ⟨(hb _ _ hf.h1).trans h.f0, (hb _ _ hf.h1).trans h.f1, (hb _ _ hf.h1).trans h.f2, (hb _ _ hf.h2).trans h.num, h.row.store (fun x hx hn => hf.h3 x hx hn) _ _, h.good⟩

theorem ClosP.clos {w : World} {B : Nat} {a : Option Addr} {n cap : Nat} {zs : List Int} {p : Nat} {inc : Int} (h : ClosP w B a n cap zs p inc) : ClosG 187 #[.pointer (some ⟨B + 1, 0, none⟩), .pointer (some ⟨B, 0, none⟩)] 4194304 (atC zs p inc) w := by
  rintro ti t v w' rfl h2 rfl h4
  exact atp_any _ a n cap zs p inc t (by omega) w' (h.under h4)

/-- What stands while the region runs: the boxes; no, one or both closures; no, one or both new boxes. -/
def Nil9 (w0 u : World) (b : Nat) : Prop := w0.heap.size ≤ b ∧ u.cell? ⟨b, 0, none⟩ = some .nilFunc ∧ u.frozen? ⟨b, 0, none⟩ = false
theorem Nil9.call {w0 u v : World} {b : Nat} (h : Nil9 w0 u b) (hb : Below u.heap.size u v) : Nil9 w0 v b := ⟨h.1, (hb.cell (lt_of_cell h.2.1)).trans h.2.1, (hb.frozen (p := ⟨b, 0, none⟩) (lt_of_cell h.2.1)).trans h.2.2⟩
theorem Nil9.new {w0 u : World} (h : w0.heap.size ≤ u.heap.size) : Nil9 w0 (u.alloc (.cells #[.nilFunc] 40)) u.heap.size := ⟨h, new_cell _ _ _, by go_simp⟩

theorem Clo2.end {w u : World} {b9 b10 B1 B2 : Nat} {a1 a2 : Option Addr} {n1 cap1 p1 n2 cap2 p2 : Nat} {i1 i2 : Int} {z1 z2 : List Int} (h1 : ClosP u B1 a1 n1 cap1 z1 p1 i1) (h2 : ClosP u B2 a2 n2 cap2 z2 p2 i2) (hn : ¬ b9 = b10)
    (c9 : u.cell? ⟨b9, 0, none⟩ = some .nilFunc) (c10 : u.cell? ⟨b10, 0, none⟩ = some .nilFunc) (f19 : Far B1 a1 n1 b9) (f110 : Far B1 a1 n1 b10) (f29 : Far B2 a2 n2 b9) (f210 : Far B2 a2 n2 b10) :
    Clo2 w b9 b10 B1 B2 (atC z1 p1 i1) (atC z2 p2 i2) ((u.setCell ⟨b9, 0, none⟩ (.func (.func 187) #[] #[.pointer (some ⟨B1 + 1, 0, none⟩), .pointer (some ⟨B1, 0, none⟩)])).setCell ⟨b10, 0, none⟩ (.func (.func 187) #[] #[.pointer (some ⟨B2 + 1, 0, none⟩), .pointer (some ⟨B2, 0, none⟩)])) := by
  have e10 : (u.setCell ⟨b9, 0, none⟩ (.func (.func 187) #[] #[.pointer (some ⟨B1 + 1, 0, none⟩), .pointer (some ⟨B1, 0, none⟩)])).cell? ⟨b10, 0, none⟩ = some .nilFunc := by
    rw [World.cell?_setCell_other _ _ _ _ (fun h => hn (by cases h; rfl))]; exact c10
  refine ⟨?_, World.cell?_setCell_same _ _ _ e10, ((h1.store f19 _).store f110 _).clos, ((h2.store f29 _).store f210 _).clos⟩
  rw [World.cell?_setCell_other _ _ _ _ (fun h => hn (by cases h; rfl))]
  exact World.cell?_setCell_same _ _ _ c9

end Go.Proofs.Ytombgfpheiopgaa
