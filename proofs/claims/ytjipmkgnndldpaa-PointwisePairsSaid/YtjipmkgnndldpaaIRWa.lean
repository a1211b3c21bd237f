/- What RemainderAnswers' walk stands on: curves as values, lists of seven, Longer. By the verifier's side. -/
import Derived.Test.YtjipmkgnndldpaaICurveAnswersW
import Derived.Test.YtjipmkgnndldpaaIDecV
import Derived.Test.YtjipmkgnndldpaaIRegJ
import Derived.Test.YtjipmkgnndldpaaIRemP
import Derived.Test.YtjipmkgnndldpaaIPwMPwOPwXR56M
import Derived.Test.YtjipmkgnndldpaaIRBad
import Derived.Test.YtjipmkgnndldpaaIConER
import Derived.Test.YtjipmkgnndldpaaICE
import Derived.Test.YtjipmkgnndldpaaIBkL
import Derived.Test.YtjipmkgnndldpaaIBkG
import Derived.Test.YtjipmkgnndldpaaIRefO
import Derived.Test.YtjipmkgnndldpaaIBaseApartPickKeepS
namespace Go.Proofs.Ytjipmkgnndldpaa
open Go.RowKit
set_option linter.unusedSimpArgs false
set_option linter.unusedVariables false

theorem Curs.below {w u : World} {b B N : Nat} (h : Curs w b B N) (hb : Below w.heap.size w u) : Curs u b B N := fun k hk => by
  obtain ⟨a, n, cap, zs, p, inc, h1, h2, h3, h4⟩ := h k hk
  exact ⟨a, n, cap, zs, p, inc, h1.below hb, (hb.cell (lt_of_cell h2)).trans h2, (hb.cell (lt_of_cell h3)).trans h3, (hb.cell (lt_of_cell h4)).trans h4⟩
/-- A curve, as a value. -/
def VC (b : Nat) (t : Value) (u : World) : Prop := ∃ (a : Option Addr) (n cap : Nat) (zs : List Int) (p inc : Int), t = curV a n cap p inc ∧ CurIn u b a n cap zs p inc
theorem VC.apart {b : Nat} {t : Value} {u v : World} (h : VC b t u) (ha : Apart b u v) : VC b t v := by
  obtain ⟨a, n, cap, zs, p, inc, h1, h2⟩ := h
  exact ⟨a, n, cap, zs, p, inc, h1, h2.apart ha⟩
/-- A small drawn curve, as a value. -/
def VO (b : Nat) (t : Value) (u : World) : Prop := ∃ (a : Option Addr) (n cap : Nat) (zs : List Int) (p : Nat) (inc : Int), t = curV a n cap p inc ∧ OkCur 4 zs p inc ∧ CurIn u b a n cap zs p inc
theorem VO.apart {b : Nat} {t : Value} {u v : World} (h : VO b t u) (ha : Apart b u v) : VO b t v := by
  obtain ⟨a, n, cap, zs, p, inc, h1, h0, h2⟩ := h
  exact ⟨a, n, cap, zs, p, inc, h1, h0, h2.apart ha⟩
def Tms (z : Int) : Prop := z = 7 ∨ z = 11 ∨ z = 30
theorem Tms.in64 {z : Int} (h : Tms z) : In64 z := by rcases h with rfl | rfl | rfl <;> exact ⟨by omega, by omega⟩
/-- The list of the numbers of times, as a value. -/
def V3 (b : Nat) (t : Value) (u : World) : Prop := ∃ G : Nat, t = .slice (some ⟨G, 0, none⟩) 3 3 ∧ G ≠ b ∧ ∀ i, i < 3 → ∃ z, u.cell? ⟨G, i, none⟩ = some (.int .i64 z) ∧ Tms z
theorem V3.apart {b : Nat} {t : Value} {u v : World} (h : V3 b t u) (ha : Apart b u v) : V3 b t v := by
  obtain ⟨G, h1, h2, h3⟩ := h
  obtain ⟨k, _⟩ := acell ha
  exact ⟨G, h1, h2, fun i hi => by
    obtain ⟨z, hz, hi⟩ := h3 i hi
    exact ⟨z, (k G _ (lt_of_cell hz) h2).trans hz, hi⟩⟩
/-- A list of N curves, as a value. -/
def VN (N : Nat) (b : Nat) (t : Value) (u : World) : Prop := ∃ B : Nat, t = .slice (some ⟨B, 0, none⟩) N N ∧ ¬ B = b ∧ Curs u b B N
theorem VN.apart {N b : Nat} {t : Value} {u v : World} (h : VN N b t u) (ha : Apart b u v) : VN N b t v := by
  obtain ⟨B, h1, h2, h3⟩ := h
  exact ⟨B, h1, h2, h3.apart ha h2⟩
section
variable {w : World} {b : Nat} {a1 a2 a3 a4 a5 a6 a7 : Option Addr} {n1 n2 n3 n4 n5 n6 n7 c1 c2 c3 c4 c5 c6 c7 : Nat} {z1 z2 z3 z4 z5 z6 z7 : List Int} {p1 p2 p3 p4 p5 p6 p7 i1 i2 i3 i4 i5 i6 i7 : Int} {t : TypeId}
theorem curs7 (h1 : CurIn w b a1 n1 c1 z1 p1 i1) (h2 : CurIn w b a2 n2 c2 z2 p2 i2) (h3 : CurIn w b a3 n3 c3 z3 p3 i3) (h4 : CurIn w b a4 n4 c4 z4 p4 i4) (h5 : CurIn w b a5 n5 c5 z5 p5 i5) (h6 : CurIn w b a6 n6 c6 z6 p6 i6) (h7 : CurIn w b a7 n7 c7 z7 p7 i7) :
    Curs (w.alloc (.cells #[.slice a1 n1 c1, .int .i64 p1, .int .i64 i1, .slice a2 n2 c2, .int .i64 p2, .int .i64 i2, .slice a3 n3 c3, .int .i64 p3, .int .i64 i3, .slice a4 n4 c4, .int .i64 p4, .int .i64 i4, .slice a5 n5 c5, .int .i64 p5, .int .i64 i5, .slice a6 n6 c6, .int .i64 p6, .int .i64 i6, .slice a7 n7 c7, .int .i64 p7, .int .i64 i7] t)) b w.heap.size 7 := fun k hk => by
  have hb := fun o => (Below.refl w.heap.size w).alloc (Nat.le_refl _) o
  have hk5 : k = 0 ∨ k = 1 ∨ k = 2 ∨ k = 3 ∨ k = 4 ∨ k = 5 ∨ k = 6 := by omega
  rcases hk5 with rfl | rfl | rfl | rfl | rfl | rfl | rfl
  · exact ⟨_, _, _, _, _, _, h1.below (hb _), cell_new rfl, cell_new rfl, cell_new rfl⟩
  · exact ⟨_, _, _, _, _, _, h2.below (hb _), cell_new rfl, cell_new rfl, cell_new rfl⟩
  · exact ⟨_, _, _, _, _, _, h3.below (hb _), cell_new rfl, cell_new rfl, cell_new rfl⟩
  · exact ⟨_, _, _, _, _, _, h4.below (hb _), cell_new rfl, cell_new rfl, cell_new rfl⟩
  · exact ⟨_, _, _, _, _, _, h5.below (hb _), cell_new rfl, cell_new rfl, cell_new rfl⟩
  · exact ⟨_, _, _, _, _, _, h6.below (hb _), cell_new rfl, cell_new rfl, cell_new rfl⟩
  · exact ⟨_, _, _, _, _, _, h7.below (hb _), cell_new rfl, cell_new rfl, cell_new rfl⟩
end
/-- Longer of a small drawn curve. -/
theorem longer_any6 {b : Nat} (a : Option Addr) (n cap : Nat) (zs : List Int) (p : Nat) (inc : Int) (ok : OkCur 4 zs p inc) {z : Int} (hz : Tms z) (w : World) (hb : b < w.heap.size) (h : CurIn w b a n cap zs p inc) :
    Calls Try.prog 41 #[curV a n cap p inc, .int .i64 0, .int .i64 z] w fun e w' => Below w.heap.size w w' ∧ ∃ (a' : Option Addr) (n' cap' : Nat) (zs' : List Int) (p' inc' : Int), e = .returned (curV a' n' cap' p' inc') ∧ CurIn w' b a' n' cap' zs' p' inc' := by
  by_cases hf : zs.getD (zs.length - 1) 0 = infV
  · refine (longer_inf a n cap zs p inc ok.good hf 0 z w h.row).mono ?_
    rintro e w' ⟨rfl, hb'⟩
    exact ⟨hb', a, n, cap, zs, p, inc, rfl, h.below hb'⟩
  · obtain ⟨times, ht, h1, h2⟩ : ∃ times : Nat, z = times ∧ 1 ≤ times ∧ times ≤ 30 := by
      rcases hz with rfl | rfl | rfl
      · exact ⟨7, rfl, by omega, by omega⟩
      · exact ⟨11, rfl, by omega, by omega⟩
      · exact ⟨30, rfl, by omega, by omega⟩
    have hp := ok.p8
    have hn : n ≤ 11 := by have := ok.few; have := h.row.len; omega
    have hK : (times - 1) * p ≤ 29 * 8 := Nat.mul_le_mul (by omega) hp
    have hp2 : p * times ≤ 8 * 30 := Nat.mul_le_mul hp h2
    have hi0 := ok.good.i0
    have hi1 := ok.inc
    have hm : inc * (times : Int) ≤ 1000 * 30 := Int.mul_le_mul hi1 (by omega) (by omega) (by omega)
    have hm0 : 0 ≤ inc * (times : Int) := Int.mul_nonneg hi0 (by omega)
    refine (longer_i a n cap zs p inc ok.good hf 0 z 0 times ((times - 1) * p) rfl ht (by omega) h1 (by omega) (by omega) (by omega) w h.row).mono ?_
    rintro e w' ⟨a', cap', rfl, hb', hr, hx⟩
    exact ⟨hb', a', _, cap', _, _, _, rfl, ⟨hr, ⟨by omega, by omega⟩, ⟨by omega, by omega⟩, fun _ x h => by have := hx x h; omega⟩⟩

end Go.Proofs.Ytjipmkgnndldpaa
