/- The examples of the chapter (awake). By the verifier's side. -/
import Derived.Test.YtkienpbmoilheaaGreatACurSLongKeepC
import Derived.Test.YtkienpbmoilheaaGreatACurFCurGCurTNum
namespace Go.Proofs.YtkienpbmoilheaaGreat
open Go.RowKit
set_option linter.unusedSimpArgs false

theorem ex_good : Good [0, 3, 6] 2 6 := (okC_iff [0, 3, 6] 2 6).1 (by decide)
theorem ex_at : ∀ t, atC [0, 3, 6] 2 6 t = (fun t : Nat => 3 * (t : Int)) t := by
  have hp := ex_good.per (show ¬ ([0, 3, 6] : List Int).getD (([0, 3, 6] : List Int).length - 1) 0 = infV by decide)
  refine hp.ext (fun t _ => by show 3 * ((t + 2 : Nat) : Int) = 3 * (t : Int) + 6; omega) (by omega) fun t ht => ?_
  have ht3 : t < 3 := ht
  have : t = 0 ∨ t = 1 ∨ t = 2 := by omega
  rcases this with rfl | rfl | rfl <;> decide
theorem norm_ex {zs' : List Int} {p' : Nat} {inc' : Int} (h : NormC [0, 3, 6] 2 6 zs' p' inc') : zs' = [0] ∧ p' = 1 ∧ inc' = 3 := by
  have hf : ¬ ([0, 3, 6] : List Int).getD (([0, 3, 6] : List Int).length - 1) 0 = infV := by decide
  have hn : NormOf (atC [0, 3, 6] 2 6) 0 1 3 := ⟨fun t _ => by rw [ex_at, ex_at]; show 3 * ((t + 1 : Nat) : Int) = 3 * (t : Int) + 3; omega, Nat.le_refl _, fun q h1 h2 => by omega, .inl rfl⟩
  rcases h with ⟨_, s, hn2, rfl, _, _⟩ | ⟨i, hi, he, _⟩
  · obtain ⟨rfl, rfl, rfl⟩ := hn.unique hn2
    exact ⟨rfl, rfl, rfl⟩
  · exact absurd (ex_good.inf_iff.1 ⟨i, hi, he⟩) hf

theorem rowZ_lit (w : World) (xs : List Int) (t : TypeId) (hx : ∀ z ∈ xs, In64 z) (hl : xs.length ≤ 1000) : RowZ (w.alloc (.cells (xs.map (Value.int .i64)).toArray t)) (some ⟨w.heap.size, 0, none⟩) xs.length xs.length xs := by
  refine ⟨rfl, Nat.le_refl _, by omega, by omega, fun i hi => ⟨_, rfl, ?_⟩, fun i hi => ?_⟩
  · have ea : ((⟨w.heap.size, 0, none⟩ : Addr).add i) = ⟨w.heap.size, i, none⟩ := by unfold Addr.add; split <;> simp_all
    rw [ea, World.cell?_alloc_new]
    simp [hi, List.getD]
  · have e : xs.getD i 0 = xs[i] := by simp [List.getD, List.getElem?_eq_getElem hi]
    rw [e]; exact hx _ (List.getElem_mem hi)

theorem lt5' {a b : Nat} (h : a < b) : a < b + 1 ∧ ¬ a = b ∧ ¬ b = a ∧ a < b := ⟨by omega, by omega, by omega, h⟩

end Go.Proofs.YtkienpbmoilheaaGreat

namespace Go.Proofs.YtkienpbmoilheaaGreat
open Go.RowKit
set_option linter.unusedSimpArgs false

theorem RowZ.apart {w w' : World} {a : Option Addr} {n cap b : Nat} {zs : List Int} (h : RowZ w a n cap zs) (ha : Apart b w w') (hx : ∀ x, a = some x → ¬ x.block = b) : RowZ w' a n cap zs :=
  ⟨h.len, h.le, h.sm, h.cm, fun i hi => by
    obtain ⟨x, h1, h2⟩ := h.cell i hi
    have hl := lt_of_cell h2
    rw [add_block] at hl
    exact ⟨x, h1, (World.cell?_of_block (w := w) (ha.block _ (by rw [add_block]; exact hl) (by rw [add_block]; exact hx x h1))).trans h2⟩, h.bd⟩

section
variable {W u v : World} {F : Nat} {x0 x1 x2 : Value} {b : Nat} {a : Option Addr} {n cap : Nat}
end

end Go.Proofs.YtkienpbmoilheaaGreat

namespace Go.Proofs.YtkienpbmoilheaaGreat
open Go.RowKit
set_option linter.unusedSimpArgs false

/-- Two curves in boxes F and G, and their rows. -/
structure Two (w : World) (F : Nat) (a : Option Addr) (n cap p : Nat) (inc : Int) (zs : List Int) (G : Nat) (b : Option Addr) (m cup q : Nat) (jnc : Int) (ys : List Int) : Prop where
  bx : Cur3 w F (.slice a n cap) (.int .i64 p) (.int .i64 inc)
  rx : RowZ w a n cap zs
  by' : Cur3 w G (.slice b m cup) (.int .i64 q) (.int .i64 jnc)
  ry : RowZ w b m cup ys
section
variable {w w' : World} {F : Nat} {a : Option Addr} {n cap p : Nat} {inc : Int} {zs : List Int} {G : Nat} {b : Option Addr} {m cup q : Nat} {jnc : Int} {ys : List Int}
theorem Two.under (h : Two w F a n cap p inc zs G b m cup q jnc ys) (hb : Below w.heap.size w w') : Two w' F a n cap p inc zs G b m cup q jnc ys :=
  ⟨h.bx.below hb, h.rx.under hb, h.by'.below hb, h.ry.under hb⟩

end

end Go.Proofs.YtkienpbmoilheaaGreat
