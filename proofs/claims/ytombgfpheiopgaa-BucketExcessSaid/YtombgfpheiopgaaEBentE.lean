/- Contract of the reader's Bent, at a curve that lists a value. By the verifier's side. | The walk of CurveEqual. By the verifier's side. -/
import Derived.Test.YtombgfpheiopgaaEKeepC
import Derived.Laws.OwnMore
import Derived.Deep.CutBlock
import Derived.Test.YtombgfpheiopgaaProg
import Derived.WalkKit
import Derived.Deep.RegionHeld3
import Derived.StillTail
import Derived.Deep.DrawnRows
import Derived.Test.YtombgfpheiopgaaECurveNormalW
import Derived.Test.YtombgfpheiopgaaECurX
import Derived.Test.YtombgfpheiopgaaERefV
namespace Go.Proofs.Ytombgfpheiopgaa
open Go.RowKit
set_option linter.unusedSimpArgs false

/-- The same while the row is the call's own and lists as many values. -/
structure Bq (B : Int) (w : World) (b : Nat) (a : Option Addr) (n cap Gb g N cap' : Nat) (p inc : Int) (wx : World) : Prop where
  held : Held w b a n cap wx
  box : Cur3 wx Gb (.slice (some ⟨g, 0, none⟩) N cap') (.int .i64 p) (.int .i64 inc)
  res : Cur3 wx (w.heap.size + 1) (.slice none 0 0) (.int .i64 0) (.int .i64 0)
  row : ∃ zs : List Int, zs.length = N ∧ (∀ i, i < zs.length → -B ≤ zs.getD i 0 ∧ zs.getD i 0 ≤ B) ∧ wx.ownsRow (w.heap.size + 1 + 1) 3 1 (.slice (some ⟨g, 0, none⟩) N cap') N (zs.map (Value.int .i64))
  bl : b < w.heap.size
  gb : w.heap.size + 1 < Gb
  gG : ¬ g = Gb

section
variable {B : Int} {w u v : World} {b : Nat} {a : Option Addr} {n cap Gb g N cap' : Nat} {p inc : Int}
theorem Bq.call (h : Bq B w b a n cap Gb g N cap' p inc u) (hs : SrcAt v b a n cap) (ha : Apart b u v) : Bq B w b a n cap Gb g N cap' p inc v := by
  have h1 := h.bl
  have h2 := h.gb
  obtain ⟨zs, hl, hb, ho⟩ := h.row
  exact ⟨h.held.call hs ha, h.box.apart ha (by omega), h.res.apart ha (by omega), ⟨zs, hl, hb, owns_apart ho ha (by omega)⟩, h1, h2, h.gG⟩
theorem Bq.alloc (h : Bq B w b a n cap Gb g N cap' p inc u) (o : Obj) : Bq B w b a n cap Gb g N cap' p inc (u.alloc o) := by
  obtain ⟨zs, hl, hb, ho⟩ := h.row
  exact ⟨h.held.alloc o, h.box.alloc o, h.res.alloc o, ⟨zs, hl, hb, ho.alloc o⟩, h.bl, h.gb, h.gG⟩
theorem Bq.drew (h : Bq B w b a n cap Gb g N cap' p inc u) : Bq B w b a n cap Gb g N cap' p inc u.drew := by
  obtain ⟨zs, hl, hb, ho⟩ := h.row
  exact ⟨h.held.drew, h.box.drewL, h.res.drewL, ⟨zs, hl, hb, ho⟩, h.bl, h.gb, h.gG⟩
theorem Bq.cell (h : Bq B w b a n cap Gb g N cap' p inc u) {i : Nat} (hi : i < N) : ∃ l : Int, (-B ≤ l ∧ l ≤ B) ∧ u.cell? ⟨g, i, none⟩ = some (.int .i64 l) ∧ u.frozen? ⟨g, i, none⟩ = false := by
  obtain ⟨zs, hl, hb, ho⟩ := h.row
  exact ⟨zs.getD i 0, hb i (by omega), owns_cell ho (by omega), ho.frozenAt i⟩
/-- How many elements the slice in a cell has. -/
def lenOf : Option Value → Nat
  | some (.slice _ k _) => k
  | _ => 0

end

end Go.Proofs.Ytombgfpheiopgaa

namespace Go.Proofs.Ytombgfpheiopgaa
open Go.RowKit
set_option linter.unusedSimpArgs false

/-- What stands while the second curve is made: the reader, both boxes and both rows. -/
structure Ce (w : World) (b : Nat) (a : Option Addr) (n cap F : Nat) (a1 : Option Addr) (n1 cap1 : Nat) (p inc : Int) (zs : List Int) (G : Nat) (a2 : Option Addr) (n2 cap2 : Nat) (q jnc : Int) (ys : List Int) (wx : World) : Prop where
  held : Held w b a n cap wx
  bf : Cur3 wx F (.slice a1 n1 cap1) (.int .i64 p) (.int .i64 inc)
  rf : RowZ wx a1 n1 cap1 zs
  bg : Cur3 wx G (.slice a2 n2 cap2) (.int .i64 q) (.int .i64 jnc)
  rg : RowZ wx a2 n2 cap2 ys
  hb : b < w.heap.size
  hF : w.heap.size ≤ F
  hG : w.heap.size ≤ G
  hFG : ¬ F = G
  nf : ∀ x, a1 = some x → ¬ x.block = b ∧ ¬ x.block = G
  ng : ∀ x, a2 = some x → ¬ x.block = b
section
variable {w u v : World} {b : Nat} {a : Option Addr} {n cap F : Nat} {a1 : Option Addr} {n1 cap1 : Nat} {p inc : Int} {zs : List Int} {G : Nat} {a2 : Option Addr} {n2 cap2 : Nat} {q jnc : Int} {ys : List Int}
theorem Ce.call (h : Ce w b a n cap F a1 n1 cap1 p inc zs G a2 n2 cap2 q jnc ys u) (hs : SrcAt v b a n cap) (ha : Apart b u v) : Ce w b a n cap F a1 n1 cap1 p inc zs G a2 n2 cap2 q jnc ys v := by
  have h1 := h.hb; have h2 := h.hF; have h3 := h.hG
  exact ⟨h.held.call hs ha, h.bf.apart ha (by omega), h.rf.apart ha (fun x hx => (h.nf x hx).1), h.bg.apart ha (by omega), h.rg.apart ha h.ng, h1, h2, h3, h.hFG, h.nf, h.ng⟩
theorem Ce.below (h : Ce w b a n cap F a1 n1 cap1 p inc zs G a2 n2 cap2 q jnc ys u) (hb : Below u.heap.size u v) : Ce w b a n cap F a1 n1 cap1 p inc zs G a2 n2 cap2 q jnc ys v :=
  ⟨h.held.below hb, h.bf.below hb, h.rf.under hb, h.bg.below hb, h.rg.under hb, h.hb, h.hF, h.hG, h.hFG, h.nf, h.ng⟩
theorem Ce.drew (h : Ce w b a n cap F a1 n1 cap1 p inc zs G a2 n2 cap2 q jnc ys u) : Ce w b a n cap F a1 n1 cap1 p inc zs G a2 n2 cap2 q jnc ys u.drew :=
  h.below (Below.refl _ _).drew
end

end Go.Proofs.Ytombgfpheiopgaa
