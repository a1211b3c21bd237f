/- Contract of curve.steady, for whatever closure with one variable. By the verifier's side. -/
import Derived.Test.YtjjaaknjdmijbaaQeCurFCurG
import Derived.Test.YtjjaaknjdmijbaaQeCurMCurNOrdM
import Derived.Deep.RegionWith
import Derived.Shelf.Abstract
import Derived.Deep.RegionHeld3
import Derived.Deep.OwnRows
import Derived.Deep.DeepCutAuto
import Derived.Test.YtjjaaknjdmijbaaQeNumCurT
import Derived.Test.YtjjaaknjdmijbaaQeKeepC
namespace Go.Proofs.Ytjjaaknjdmijbaa
open Go.RowKit
set_option linter.unusedSimpArgs false

theorem made_cell (w : World) (m i : Nat) (hi : i < m) : (w.alloc (.cells (madeCells #[.int .i64 0] m) 3)).cell? ⟨w.heap.size, i, none⟩ = some (.int .i64 0) := by
  rw [World.cell?_alloc_new]
  simp [madeCells, hi, Nat.mod_one]
theorem made_frozen (w : World) (m i : Nat) : (w.alloc (.cells (madeCells #[.int .i64 0] m) 3)).frozen? ⟨w.heap.size, i, none⟩ = false := World.frozen?_alloc_at _ _ _ _ rfl

theorem Cur3.drew {w : World} {b : Nat} {x0 x1 x2 : Value} (h : Cur3 w b x0 x1 x2) : Cur3 w.drew b x0 x1 x2 := ⟨h.c0, h.c1, h.c2, h.f0, h.f1, h.f2⟩

end Go.Proofs.Ytjjaaknjdmijbaa

namespace Go.Proofs.Ytjjaaknjdmijbaa
open Go.RowKit
set_option linter.unusedSimpArgs false

theorem ex_good : Good [0, 3, 6] 2 6 := (okC_iff [0, 3, 6] 2 6).1 (by decide)
theorem ex_at : ∀ t, atC [0, 3, 6] 2 6 t = (fun t : Nat => 3 * (t : Int)) t := by
  have hp := ex_good.per (show ¬ ([0, 3, 6] : List Int).getD (([0, 3, 6] : List Int).length - 1) 0 = infV by decide)
  refine hp.ext (fun t _ => by show 3 * ((t + 2 : Nat) : Int) = 3 * (t : Int) + 6; omega) (by omega) fun t ht => ?_
  have ht3 : t < 3 := ht
  have : t = 0 ∨ t = 1 ∨ t = 2 := by omega
  rcases this with rfl | rfl | rfl <;> decide
theorem norm_ex {zs' : List Int} {p' : Nat} {inc' : Int} (h : NormC [0, 3, 6] 2 6 zs' p' inc') : zs' = [0] ∧ p' = 1 ∧ inc' = 3 := by
  have hf : ¬ ([0, 3, 6] : List Int).getD (([0, 3, 6] : List Int).length - 1) 0 = infV := by decide
  have hn : NormOf (atC [0, 3, 6] 2 6) 0 1 3 := ⟨fun t _ => by rw [ex_at, ex_at]; show 3 * ((t + 1 : Nat) : Int) = 3 * (t : Int) + 3; omega, Nat.le_refl _, fun q h1 h2 => by omega, .inl rfl⟩
  rcases h with ⟨_, s, hn2, rfl, _, _⟩ | ⟨i, hi, he, _⟩
  · obtain ⟨rfl, rfl, rfl⟩ := hn.unique hn2
    exact ⟨rfl, rfl, rfl⟩
  · exact absurd (ex_good.inf_iff.1 ⟨i, hi, he⟩) hf

theorem rowZ_lit (w : World) (xs : List Int) (t : TypeId) (hx : ∀ z ∈ xs, In64 z) (hl : xs.length ≤ 1000) : RowZ (w.alloc (.cells (xs.map (Value.int .i64)).toArray t)) (some ⟨w.heap.size, 0, none⟩) xs.length xs.length xs := by
  refine ⟨rfl, Nat.le_refl _, by omega, by omega, fun i hi => ⟨_, rfl, ?_⟩, fun i hi => ?_⟩
  · have ea : ((⟨w.heap.size, 0, none⟩ : Addr).add i) = ⟨w.heap.size, i, none⟩ := by unfold Addr.add; split <;> simp_all
    rw [ea, World.cell?_alloc_new]
    simp [hi, List.getD]
  · have e : xs.getD i 0 = xs[i] := by simp [List.getD, List.getElem?_eq_getElem hi]
    rw [e]; exact hx _ (List.getElem_mem hi)

theorem lt5' {a b : Nat} (h : a < b) : a < b + 1 ∧ ¬ a = b ∧ ¬ b = a ∧ a < b := ⟨by omega, by omega, by omega, h⟩

end Go.Proofs.Ytjjaaknjdmijbaa

namespace Go.Proofs.Ytjjaaknjdmijbaa
open Go.RowKit
set_option linter.unusedSimpArgs false

theorem RowZ.apart {w w' : World} {a : Option Addr} {n cap b : Nat} {zs : List Int} (h : RowZ w a n cap zs) (ha : Apart b w w') (hx : ∀ x, a = some x → ¬ x.block = b) : RowZ w' a n cap zs :=
  ⟨h.len, h.le, h.sm, h.cm, fun i hi => by
    obtain ⟨x, h1, h2⟩ := h.cell i hi
    have hl := lt_of_cell h2
    rw [add_block] at hl
    exact ⟨x, h1, (World.cell?_of_block (w := w) (ha.block _ (by rw [add_block]; exact hl) (by rw [add_block]; exact hx x h1))).trans h2⟩, h.bd⟩

section
variable {W u v : World} {F : Nat} {x0 x1 x2 : Value} {b : Nat} {a : Option Addr} {n cap : Nat}
end

end Go.Proofs.Ytjjaaknjdmijbaa

namespace Go.Proofs.Ytjjaaknjdmijbaa
open Go.RowKit
set_option linter.unusedSimpArgs false

/-- Two curves in boxes F and G, and their rows. -/
structure Two (w : World) (F : Nat) (a : Option Addr) (n cap p : Nat) (inc : Int) (zs : List Int) (G : Nat) (b : Option Addr) (m cup q : Nat) (jnc : Int) (ys : List Int) : Prop where
  bx : Cur3 w F (.slice a n cap) (.int .i64 p) (.int .i64 inc)
  rx : RowZ w a n cap zs
  by' : Cur3 w G (.slice b m cup) (.int .i64 q) (.int .i64 jnc)
  ry : RowZ w b m cup ys
section
variable {w w' : World} {F : Nat} {a : Option Addr} {n cap p : Nat} {inc : Int} {zs : List Int} {G : Nat} {b : Option Addr} {m cup q : Nat} {jnc : Int} {ys : List Int}
theorem Two.under (h : Two w F a n cap p inc zs G b m cup q jnc ys) (hb : Below w.heap.size w w') : Two w' F a n cap p inc zs G b m cup q jnc ys :=
  ⟨h.bx.below hb, h.rx.under hb, h.by'.below hb, h.ry.under hb⟩

end

end Go.Proofs.Ytjjaaknjdmijbaa

namespace Go.Proofs.Ytjjaaknjdmijbaa
open Go.RowKit
set_option linter.unusedSimpArgs false

set_option maxHeartbeats 400000 in
theorem gcd_any (a b : Nat) (ha : a < 9223372036854775808) (hb : b < 9223372036854775808) (w : World) :
    Calls Try.prog 190 #[.int .i64 a, .int .i64 b] w (Drew (.int .i64 (Nat.gcd a b : Nat)) w) := by
  go_enter Try.func190, Try.ntmps190
  go_wp2
  go_loopw [0, 1] (fun va vb wr => ∃ x y : Nat, va = .int .i64 x ∧ vb = .int .i64 y ∧ x < 9223372036854775808 ∧ y < 9223372036854775808 ∧ Hid (Nat.gcd x y = Nat.gcd a b) ∧ ∃ m, wr = w.drewN m) (fun _ vb _ => (intOf vb).toNat)
  case atStart => exact ⟨a, b, rfl, rfl, ha, hb, rfl, 0, rfl⟩
  case round =>
    obtain ⟨x, y, rfl, rfl, hx, hy, hg, m, rfl⟩ := hrel
    by_cases h0 : y = 0
    · subst h0
      go_wp2
      go_ret
      exact ⟨ret_int (by have := hg.out; simp at this; omega), m, rfl⟩
    · have hy0 : 0 < y := by omega
      have hlt := Nat.mod_lt x hy0
      go_wp2
      go_quiet (fail)
      go_wp2
      go_roundw
      case rel => exact ⟨y, x % y, rfl, by rw [Int.natCast_emod], hy, by omega, (gcd_step x y).trans hg.out, m + _, World.drewN_drewN _ _ _⟩
      case measure => simp [intOf]; omega

set_option maxHeartbeats 400000 in

set_option maxHeartbeats 400000 in
theorem lcm_any (a b : Nat) (ha : 1 ≤ a) (ha2 : a ≤ 1000) (hb : 1 ≤ b) (hb2 : b ≤ 1000) (w : World) :
    Calls Try.prog 149 #[.int .i64 a, .int .i64 b] w (Drew (.int .i64 (a / Nat.gcd a b * b : Nat)) w) := by
  obtain ⟨g, hg⟩ : ∃ g, Nat.gcd a b = g := ⟨_, rfl⟩
  have hg1 : 1 ≤ (g : Int) := by have := Nat.gcd_pos_of_pos_left b (show 0 < a by omega); omega
  obtain ⟨q, hq⟩ : ∃ q, a / g = q := ⟨_, rfl⟩
  have hqa : q ≤ a := by rw [← hq]; exact Nat.div_le_self _ _
  obtain ⟨m, hm⟩ : ∃ m, q * b = m := ⟨_, rfl⟩
  have hmb : m ≤ 1000 * 1000 := by rw [← hm]; exact Nat.mul_le_mul (by omega) hb2
  have h1 : (a : Int) / (g : Int) = (q : Int) := by rw [← hq]; simp
  have h2 : IntKind.i64.wrap ((a : Int) / (g : Int)) = (q : Int) := by rw [h1]; exact IntWalk.i64_in _ ⟨by omega, by omega⟩
  have h3 : IntKind.i64.wrap ((q : Int) * (b : Int)) = (m : Int) := by rw [show (q : Int) * (b : Int) = (m : Int) by rw [← hm]; simp]; exact IntWalk.i64_in _ ⟨by omega, by omega⟩
  have HG := Lib.hid (And.intro hg (And.intro hq hm))
  rw [hg, hq, hm]
  clear hg hq hm
  go_enter Try.func149, Try.ntmps149
  go_wp2_with fail
  refine (gcd_any a b (by omega) (by omega) _).mono ?_
  rintro e w1 ⟨rfl, k, rfl⟩
  rw [HG.out.1]
  go_wp2_with fail
  go_ret
  exact ⟨rfl, k, rfl⟩

theorem lcm_at (a b L : Nat) (hL : a / Nat.gcd a b * b = L) (ha : 1 ≤ a) (ha2 : a ≤ 1000) (hb : 1 ≤ b) (hb2 : b ≤ 1000) (w : World) :
    Calls Try.prog 149 #[.int .i64 a, .int .i64 b] w (Drew (.int .i64 L) w) := by subst hL; exact lcm_any a b ha ha2 hb hb2 w

section
variable {W u v : World} {F : Nat} {a : Option Addr} {n cap p : Nat} {inc : Int} {zs : List Int} {G : Nat} {b : Option Addr} {m cup q : Nat} {jnc : Int} {ys : List Int}
end

end Go.Proofs.Ytjjaaknjdmijbaa
