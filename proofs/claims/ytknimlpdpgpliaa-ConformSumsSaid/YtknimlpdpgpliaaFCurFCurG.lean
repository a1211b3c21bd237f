/- Contract of curve.reduced at finite curves, and of curve.Normal. By the verifier's side. -/
import Derived.Test.YtknimlpdpgpliaaFCurE
namespace Go.Proofs.Ytknimlpdpgpliaa
open Go.RowKit
set_option linter.unusedSimpArgs false

theorem Cur3.dr {w w' : World} {b : Nat} {x0 x1 x2 : Value} (h : Cur3 w b x0 x1 x2) (hd : ∃ m, w' = w.drewN m) : Cur3 w' b x0 x1 x2 := by
  obtain ⟨m, rfl⟩ := hd; exact h.drewN m
theorem RowZ.dr {w w' : World} {a : Option Addr} {n cap : Nat} {zs : List Int} (h : RowZ w a n cap zs) (hd : ∃ m, w' = w.drewN m) : RowZ w' a n cap zs := by
  obtain ⟨m, rfl⟩ := hd; exact h.drewN m
theorem below_dr {B : Nat} {u w w' : World} (h : Below B u w) (hd : ∃ m, w' = w.drewN m) : Below B u w' := by
  obtain ⟨m, rfl⟩ := hd; exact h.drewN m

end Go.Proofs.Ytknimlpdpgpliaa

namespace Go.Proofs.Ytknimlpdpgpliaa
open Go.RowKit
set_option linter.unusedSimpArgs false

/-- A curve and an error's number are handed back. -/
def GivesNorm2 (zs : List Int) (p : Nat) (inc : Int) (w : World) (e : Ending) (w' : World) : Prop :=
  ∃ a n cap zs' p' inc', e = .returned (.tuple #[curV a n cap (p' : Nat) inc', .int .i64 0]) ∧ Below w.heap.size w w' ∧ RowZ w' a n cap zs' ∧ NormC zs p inc zs' p' inc' ∧ ∀ x, a = some x → w.heap.size ≤ x.block

theorem norm_post2 {w w2 : World} {b : Nat} (hb : Below w.heap.size w w2) (hwb : w.heap.size ≤ b) {a : Option Addr} {n cap : Nat} {zs' : List Int} (hr : RowZ w2 a n cap zs') (hlt : ∀ x, a = some x → b < x.block) (p' : Nat) (inc' : Int)
    {zs : List Int} {p : Nat} {inc : Int} (hn : NormC zs p inc zs' p' inc') :
    GivesNorm2 zs p inc w (.returned (.tuple #[curV a n cap p' inc', .int .i64 0])) (((w2.setCell ⟨b, 0, none⟩ (.slice a n cap)).setCell ⟨b, 1, none⟩ (.int .i64 p')).setCell ⟨b, 2, none⟩ (.int .i64 inc')) := by
  obtain ⟨a2, n2, cap2, zs2, p2, inc2, he, h1, h2, h3, h4⟩ := norm_post hb hwb hr hlt p' inc' hn
  simp only [Ending.returned.injEq, curV, Value.agg.injEq] at he
  simp at he
  obtain ⟨⟨rfl, rfl, rfl⟩, h5, rfl⟩ := he
  obtain rfl : p' = p2 := by omega
  exact ⟨a, n, cap, zs2, p', inc', rfl, h1, h2, h3, h4⟩

end Go.Proofs.Ytknimlpdpgpliaa
