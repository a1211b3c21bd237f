/- The contract of keep.Zero. By the verifier's side. -/
import Derived.Test.YtjjaaknjdmijbaaQbBentE
import Derived.Test.YtjjaaknjdmijbaaQbOrdM
namespace Go.Proofs.Ytjjaaknjdmijbaa
open Go.RowKit
set_option linter.unusedSimpArgs false

/-- A curve that is short and small. -/
def Sm (zs : List Int) (p : Nat) (inc : Int) : Prop := zs.length ≤ 16 ∧ p ≤ 8 ∧ inc ≤ 1000 ∧ ∀ i, i < zs.length → zs.getD i 0 ≤ 10000 ∨ zs.getD i 0 = infV

/-- Such a curve, with a period that divides 24. -/
def Sm2 (zs : List Int) (p : Nat) (inc : Int) : Prop := Sm zs p inc ∧ 24 % p = 0

/-- A finite curve is handed back that is 0 at the tick 0, in memory of the call's own; of the elder blocks only the reader's has turned. -/
def GivesZero2 (b : Nat) (a : Option Addr) (n cap : Nat) (w : World) (e : Ending) (w' : World) : Prop :=
  ∃ (a' : Option Addr) (n' cap' : Nat) (zs : List Int) (p : Nat) (inc : Int), e = .returned (curV a' n' cap' p inc) ∧ SrcAt w' b a n cap ∧ Apart b w w' ∧ RowZ w' a' n' cap' zs ∧ Good zs p inc ∧ (¬ InfC zs) ∧ zs.getD 0 0 = 0 ∧ Sm2 zs p inc ∧ ∀ x, a' = some x → w.heap.size ≤ x.block

/-- What stands in Zero: the reader, the curve's box and its list, and the result's box. -/
structure Zr (w : World) (b : Nat) (a : Option Addr) (n cap F : Nat) (a1 : Option Addr) (n1 cap1 p : Nat) (inc : Int) (zs : List Int) (wx : World) : Prop where
  held : Held w b a n cap wx
  bf : Cur3 wx F (.slice a1 n1 cap1) (.int .i64 p) (.int .i64 inc)
  br : Cur3 wx w.heap.size (.slice none 0 0) (.int .i64 0) (.int .i64 0)
  row : RowZ wx a1 n1 cap1 zs
  good : Good zs p inc
  sm : Sm2 zs p inc
  far : ∀ x, a1 = some x → w.heap.size < x.block ∧ ¬ x.block = F
  hF : w.heap.size < F
  hb : b < w.heap.size

section
variable {w u v : World} {b : Nat} {a : Option Addr} {n cap F : Nat} {a1 : Option Addr} {n1 cap1 p : Nat} {inc : Int} {zs : List Int}
theorem Zr.call (h : Zr w b a n cap F a1 n1 cap1 p inc zs u) (hs : SrcAt v b a n cap) (ha : Apart b u v) : Zr w b a n cap F a1 n1 cap1 p inc zs v := by
  have h1 := h.hb; have h2 := h.hF
  exact ⟨h.held.call hs ha, h.bf.apart ha (by omega), h.br.apart ha (by omega), h.row.apart ha (fun x hx => by have := h.far x hx; omega), h.good, h.sm, h.far, h2, h1⟩
theorem Zr.alloc (h : Zr w b a n cap F a1 n1 cap1 p inc zs u) (o : Obj) : Zr w b a n cap F a1 n1 cap1 p inc zs (u.alloc o) := ⟨h.held.alloc o, h.bf.alloc o, h.br.alloc o, h.row.alloc o, h.good, h.sm, h.far, h.hF, h.hb⟩
/-- Another curve is stored. -/
theorem Zr.put (h : Zr w b a n cap F a1 n1 cap1 p inc zs u) {a2 : Option Addr} {n2 cap2 q : Nat} {jnc : Int} {ys : List Int} (hr : RowZ u a2 n2 cap2 ys) (g : Good ys q jnc) (hsm : Sm2 ys q jnc) (hx : ∀ x, a2 = some x → w.heap.size < x.block ∧ ¬ x.block = F) :
    Zr w b a n cap F a2 n2 cap2 q jnc ys (((u.setCell ⟨F, 0, none⟩ (.slice a2 n2 cap2)).setCell ⟨F, 1, none⟩ (.int .i64 q)).setCell ⟨F, 2, none⟩ (.int .i64 jnc)) := by
  have h1 := h.hF
  exact ⟨((h.held.set h.hb (p := ⟨F, 0, none⟩) (Nat.le_of_lt h1) _).set h.hb (p := ⟨F, 1, none⟩) (Nat.le_of_lt h1) _).set h.hb (p := ⟨F, 2, none⟩) (Nat.le_of_lt h1) _, h.bf.set _ _ _,
    ((h.br.other (by omega) _ _).other (by omega) _ _).other (by omega) _ _, ((hr.store (fun x e _ => (hx x e).2) _ _).store (fun x e _ => (hx x e).2) _ _).store (fun x e _ => (hx x e).2) _ _, g, hsm, hx, h1, h.hb⟩
/-- The end: the curve is stored to the result's box, and handed back. -/
theorem Zr.post (h : Zr w b a n cap F a1 n1 cap1 p inc zs u) (hS : SrcAt w b a n cap) (hf : ¬ InfC zs) (h0 : zs.getD 0 0 = 0) :
    GivesZero2 b a n cap w (.returned (curV a1 n1 cap1 p inc)) (((u.setCell ⟨w.heap.size, 0, none⟩ (.slice a1 n1 cap1)).setCell ⟨w.heap.size, 1, none⟩ (.int .i64 p)).setCell ⟨w.heap.size, 2, none⟩ (.int .i64 inc)) := by
  have H := ((h.held.set h.hb (p := ⟨w.heap.size, 0, none⟩) (Nat.le_refl _) (.slice a1 n1 cap1)).set h.hb (p := ⟨w.heap.size, 1, none⟩) (Nat.le_refl _) (.int .i64 p)).set h.hb (p := ⟨w.heap.size, 2, none⟩) (Nat.le_refl _) (.int .i64 inc)
  have hx : ∀ x, a1 = some x → w.heap.size < x.block := fun x hx => (h.far x hx).1
  exact ⟨a1, n1, cap1, zs, p, inc, rfl, H.at hS, H.ap, ((h.row.store (fun x h _ => Nat.ne_of_gt (hx x h)) _ _).store (fun x h _ => Nat.ne_of_gt (hx x h)) _ _).store (fun x h _ => Nat.ne_of_gt (hx x h)) _ _, h.good, hf, h0, h.sm, fun x h => Nat.le_of_lt (hx x h)⟩
end

end Go.Proofs.Ytjjaaknjdmijbaa

namespace Go.Proofs.Ytjjaaknjdmijbaa
open Go.RowKit
set_option linter.unusedSimpArgs false
set_option linter.unusedVariables false

/-- A curve that is short and small, and if it is finite, slow, and repeats by 12 ticks. -/
def Sm3 (most : Nat) (zs : List Int) (p : Nat) (inc : Int) : Prop := Sm2 zs p inc ∧ (¬ InfC zs → (∀ t, atC zs p inc t ≤ 3 + 9 * (t : Int)) ∧ ∃ c, Per (atC zs p inc) most 12 c)

/-- A finite curve is handed back that is 0 at the tick 0, in memory of the call's own; of the elder blocks only the reader's has turned. -/
def GivesZero3 (most : Nat) (b : Nat) (a : Option Addr) (n cap : Nat) (w : World) (e : Ending) (w' : World) : Prop :=
  ∃ (a' : Option Addr) (n' cap' : Nat) (zs : List Int) (p : Nat) (inc : Int), e = .returned (curV a' n' cap' p inc) ∧ SrcAt w' b a n cap ∧ Apart b w w' ∧ RowZ w' a' n' cap' zs ∧ Good zs p inc ∧ (¬ InfC zs) ∧ zs.getD 0 0 = 0 ∧ Sm3 most zs p inc ∧ ∀ x, a' = some x → w.heap.size ≤ x.block

/-- What stands in Zero: the reader, the curve's box and its list, and the result's box. -/
structure Zr3 (most : Nat) (w : World) (b : Nat) (a : Option Addr) (n cap F : Nat) (a1 : Option Addr) (n1 cap1 p : Nat) (inc : Int) (zs : List Int) (wx : World) : Prop where
  held : Held w b a n cap wx
  bf : Cur3 wx F (.slice a1 n1 cap1) (.int .i64 p) (.int .i64 inc)
  br : Cur3 wx w.heap.size (.slice none 0 0) (.int .i64 0) (.int .i64 0)
  row : RowZ wx a1 n1 cap1 zs
  good : Good zs p inc
  sm : Sm3 most zs p inc
  far : ∀ x, a1 = some x → w.heap.size < x.block ∧ ¬ x.block = F
  hF : w.heap.size < F
  hb : b < w.heap.size

section
variable {most : Nat} {w u v : World} {b : Nat} {a : Option Addr} {n cap F : Nat} {a1 : Option Addr} {n1 cap1 p : Nat} {inc : Int} {zs : List Int}
theorem Zr3.call (h : Zr3 most w b a n cap F a1 n1 cap1 p inc zs u) (hs : SrcAt v b a n cap) (ha : Apart b u v) : Zr3 most w b a n cap F a1 n1 cap1 p inc zs v := by
  have h1 := h.hb; have h2 := h.hF
  exact ⟨h.held.call hs ha, h.bf.apart ha (by omega), h.br.apart ha (by omega), h.row.apart ha (fun x hx => by have := h.far x hx; omega), h.good, h.sm, h.far, h2, h1⟩
theorem Zr3.alloc (h : Zr3 most w b a n cap F a1 n1 cap1 p inc zs u) (o : Obj) : Zr3 most w b a n cap F a1 n1 cap1 p inc zs (u.alloc o) := ⟨h.held.alloc o, h.bf.alloc o, h.br.alloc o, h.row.alloc o, h.good, h.sm, h.far, h.hF, h.hb⟩
/-- Another curve is stored. -/
theorem Zr3.put (h : Zr3 most w b a n cap F a1 n1 cap1 p inc zs u) {a2 : Option Addr} {n2 cap2 q : Nat} {jnc : Int} {ys : List Int} (hr : RowZ u a2 n2 cap2 ys) (g : Good ys q jnc) (hsm : Sm3 most ys q jnc) (hx : ∀ x, a2 = some x → w.heap.size < x.block ∧ ¬ x.block = F) :
    Zr3 most w b a n cap F a2 n2 cap2 q jnc ys (((u.setCell ⟨F, 0, none⟩ (.slice a2 n2 cap2)).setCell ⟨F, 1, none⟩ (.int .i64 q)).setCell ⟨F, 2, none⟩ (.int .i64 jnc)) := by
  have h1 := h.hF
  exact ⟨((h.held.set h.hb (p := ⟨F, 0, none⟩) (Nat.le_of_lt h1) _).set h.hb (p := ⟨F, 1, none⟩) (Nat.le_of_lt h1) _).set h.hb (p := ⟨F, 2, none⟩) (Nat.le_of_lt h1) _, h.bf.set _ _ _,
    ((h.br.other (by omega) _ _).other (by omega) _ _).other (by omega) _ _, ((hr.store (fun x e _ => (hx x e).2) _ _).store (fun x e _ => (hx x e).2) _ _).store (fun x e _ => (hx x e).2) _ _, g, hsm, hx, h1, h.hb⟩
/-- The end: the curve is stored to the result's box, and handed back. -/
theorem Zr3.post (h : Zr3 most w b a n cap F a1 n1 cap1 p inc zs u) (hS : SrcAt w b a n cap) (hf : ¬ InfC zs) (h0 : zs.getD 0 0 = 0) :
    GivesZero3 most b a n cap w (.returned (curV a1 n1 cap1 p inc)) (((u.setCell ⟨w.heap.size, 0, none⟩ (.slice a1 n1 cap1)).setCell ⟨w.heap.size, 1, none⟩ (.int .i64 p)).setCell ⟨w.heap.size, 2, none⟩ (.int .i64 inc)) := by
  have H := ((h.held.set h.hb (p := ⟨w.heap.size, 0, none⟩) (Nat.le_refl _) (.slice a1 n1 cap1)).set h.hb (p := ⟨w.heap.size, 1, none⟩) (Nat.le_refl _) (.int .i64 p)).set h.hb (p := ⟨w.heap.size, 2, none⟩) (Nat.le_refl _) (.int .i64 inc)
  have hx : ∀ x, a1 = some x → w.heap.size < x.block := fun x hx => (h.far x hx).1
  exact ⟨a1, n1, cap1, zs, p, inc, rfl, H.at hS, H.ap, ((h.row.store (fun x h _ => Nat.ne_of_gt (hx x h)) _ _).store (fun x h _ => Nat.ne_of_gt (hx x h)) _ _).store (fun x h _ => Nat.ne_of_gt (hx x h)) _ _, h.good, hf, h0, h.sm, fun x h => Nat.le_of_lt (hx x h)⟩
end

end Go.Proofs.Ytjjaaknjdmijbaa
