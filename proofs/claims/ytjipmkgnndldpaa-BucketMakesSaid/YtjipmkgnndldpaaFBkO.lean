/- Least of the program. By the verifier's side. -/
import Derived.Test.YtjipmkgnndldpaaFBkN
namespace Go.Proofs.Ytjipmkgnndldpaa
open Go.RowKit
set_option linter.unusedSimpArgs false
set_option linter.unusedVariables false

theorem RowB.other {u : World} {B off q : Nat} {bs : List Bkt} (h : RowB u B off bs) (hq : B ≠ q) (i : Nat) (v : Value) : RowB (u.setCell ⟨q, i, none⟩ v) B off bs := fun j b hc => by
  have hb : (u.setCell ⟨q, i, none⟩ v).heap[B]? = u.heap[B]? := Below.heap_setCell _ _ _ _ hq
  have hs : ∀ o, (u.setCell ⟨q, i, none⟩ v).cell? ⟨B, o, none⟩ = u.cell? ⟨B, o, none⟩ := fun o => World.cell?_of_block (w := u) (a := ⟨B, o, none⟩) hb
  obtain ⟨h1, h2, h3, h4⟩ := h j b hc
  exact ⟨(hs _).trans h1, (hs _).trans h2, (hs _).trans h3, (hs _).trans h4⟩
/-- The result so far in box L; the function's result is still empty. -/
structure BLs (w wx : World) (L : Nat) (r : Rs) (a : Option Addr) (n cap : Nat) : Prop where
  res : Cur3 wx w.heap.size (.slice none 0 0) (.int .i64 0) (.int .i64 0)
  box : Cur3 wx L (.slice a n cap) (.int .i64 r.p) (.int .i64 r.inc)
  row : RowZ wx a n cap r.zs
  far : ∀ x, a = some x → w.heap.size ≤ x.block ∧ (1 ≤ n → x.block ≠ L ∧ x.block ≠ w.heap.size)
  lt : w.heap.size < L
  below : Below w.heap.size w wx
theorem BLs.call {w u v : World} {L : Nat} {r : Rs} {a : Option Addr} {n cap : Nat} (h : BLs w u L r a n cap) (hb : Below u.heap.size u v) : BLs w v L r a n cap :=
  ⟨h.res.below hb, h.box.below hb, h.row.under hb, h.far, h.lt, h.below.trans (hb.mono h.below.size)⟩
theorem BLs.lay {w u : World} {L : Nat} {r t : Rs} {a a3 : Option Addr} {n cap n3 cap3 : Nat} (h : BLs w u L r a n cap) (hr : RowZ u a3 n3 cap3 t.zs) (hx : ∀ x, a3 = some x → w.heap.size ≤ x.block ∧ (1 ≤ n3 → x.block ≠ L ∧ x.block ≠ w.heap.size)) :
    BLs w (((u.setCell ⟨L, 0, none⟩ (.slice a3 n3 cap3)).setCell ⟨L, 1, none⟩ (.int .i64 t.p)).setCell ⟨L, 2, none⟩ (.int .i64 t.inc)) L t a3 n3 cap3 := by
  have hl := h.lt
  have hne : ∀ x, a3 = some x → 1 ≤ n3 → x.block ≠ L := fun x h1 hn => ((hx x h1).2 hn).1
  exact ⟨((h.res.other (by omega) _ _).other (by omega) _ _).other (by omega) _ _, h.box.set _ _ _, ((hr.store hne _ _).store hne _ _).store hne _ _, hx, hl, below_set3 h.below (by omega) _ _ _⟩
theorem BLs.post {w u : World} {L : Nat} {r : Rs} {a : Option Addr} {n cap : Nat} (h : BLs w u L r a n cap) :
    GivesCE r.zs r.p r.inc r.c w (.returned (.tuple #[curV a n cap r.p r.inc, .int .i64 r.c])) (((u.setCell ⟨w.heap.size, 0, none⟩ (.slice a n cap)).setCell ⟨w.heap.size, 1, none⟩ (.int .i64 r.p)).setCell ⟨w.heap.size, 2, none⟩ (.int .i64 r.inc)) := by
  have hne : ∀ x, a = some x → 1 ≤ n → x.block ≠ w.heap.size := fun x h1 hn => ((h.far x h1).2 hn).2
  exact ⟨a, n, cap, rfl, below_set3 h.below (Nat.le_refl _) _ _ _, ((h.row.store hne _ _).store hne _ _).store hne _ _, fun x h1 => (h.far x h1).1⟩

end Go.Proofs.Ytjipmkgnndldpaa
