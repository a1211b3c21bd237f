/- Contract of the document's Least, at a finite curve. By the verifier's side. -/
import Derived.Test.YtgdkjmmlgnmidaaRefP
import Derived.Test.YtgdkjmmlgnmidaaKeepC
import Derived.Test.YtgdkjmmlgnmidaaKeepS
import Derived.Deep.DeepCutAuto
namespace Go.Proofs.Ytgdkjmmlgnmidaa
open Go.RowKit
set_option linter.unusedSimpArgs false

theorem firsts_take {zs : List Int} {p : Nat} {inc : Int} {m : Nat} (h : m ≤ zs.length) : firsts (atC zs p inc) m = zs.take m := by
  refine list_ext_getD (by rw [firsts_length, List.length_take]; omega) fun i hi => ?_
  rw [firsts_length] at hi
  rw [firsts_getD _ _ _ hi, getD_take hi, atC_lt (by omega)]

/-- What stands in Least: the curve's box and row, the result's box. -/
structure Ls (w : World) (a : Option Addr) (n cap P : Nat) (inc : Int) (zs : List Int) (wx : World) : Prop where
  bl : Below w.heap.size w wx
  bf : Cur3 wx w.heap.size (.slice a n cap) (.int .i64 P) (.int .i64 inc)
  rf : RowZ wx a n cap zs
  br : Cur3 wx (w.heap.size + 1) (.slice none 0 0) (.int .i64 0) (.int .i64 0)
theorem Ls.under {w u v : World} {a : Option Addr} {n cap P : Nat} {inc : Int} {zs : List Int} (h : Ls w a n cap P inc zs u) (hb : Below u.heap.size u v) : Ls w a n cap P inc zs v :=
  ⟨h.bl.trans (hb.mono h.bl.size), h.bf.below hb, h.rf.under hb, h.br.below hb⟩
abbrev LsS (w : World) (a : Option Addr) (n cap P : Nat) (inc : Int) (zs : List Int) (wx : World) : Prop :=
  wx.cell? ⟨w.heap.size, 0, none⟩ = some (.slice a n cap) ∧ wx.cell? ⟨w.heap.size, 1, none⟩ = some (.int .i64 P) ∧ wx.cell? ⟨w.heap.size, 2, none⟩ = some (.int .i64 inc) ∧ Hid (Ls w a n cap P inc zs wx)
theorem ls_s {w u : World} {a : Option Addr} {n cap P : Nat} {inc : Int} {zs : List Int} (h : Ls w a n cap P inc zs u) : LsS w a n cap P inc zs u := ⟨h.bf.c0, h.bf.c1, h.bf.c2, h⟩

theorem Ls.grow {w u v : World} {a : Option Addr} {n cap P : Nat} {inc : Int} {zs : List Int} (h : Ls w a n cap P inc zs u) (h0 : RowZ w a n cap zs) {row : Option Nat} (hg : u.grownBy v row) (hr : ∀ j, row = some j → w.heap.size + 1 + 1 ≤ j) {O : Nat} (hO : w.heap.size + 1 < O) (x : Value) :
    Ls w a n cap P inc zs (v.setCell ⟨O, 0, none⟩ x) := by
  have hb : Below w.heap.size w (v.setCell ⟨O, 0, none⟩ x) := (h.bl.grown hg h.bl.size (fun j hj => by have := hr j hj; omega)).setCell (p := ⟨O, 0, none⟩) (by show w.heap.size ≤ O; omega) x
  exact ⟨hb, (h.bf.grown hg (fun j hj => by have := hr j hj; omega)).other (by omega) _ _, h0.under hb, (h.br.grown hg (fun j hj => by have := hr j hj; omega)).other (by omega) _ _⟩

end Go.Proofs.Ytgdkjmmlgnmidaa
