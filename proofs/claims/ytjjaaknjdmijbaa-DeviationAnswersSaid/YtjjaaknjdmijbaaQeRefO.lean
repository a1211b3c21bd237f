/- Contracts of the document's package of fractions, as package curve needs them: abs, Valid, New. By the verifier's side. | Contracts: the document's Finite, Start, Slope, Equal; Start and Equal at curves that are not valid. By the verifier's side. -/
import Derived.Test.YtjjaaknjdmijbaaQeCurSToCurveNormalW
import Derived.RegionTactic
import Derived.WalkSpells
import Derived.Test.YtjjaaknjdmijbaaQeRefP
import Derived.Test.YtjjaaknjdmijbaaQeBaseApartPickKeepS
namespace Go.Proofs.Ytjjaaknjdmijbaa
open Go.RowKit
set_option linter.unusedSimpArgs false

/-- Block p holds the fraction x over d, and may be written. -/
structure Box (w : World) (p : Nat) (x d : Int) : Prop where
  c0 : w.cell? ⟨p, 0, none⟩ = some (.int .i64 x)
  c1 : w.cell? ⟨p, 1, none⟩ = some (.int .i64 d)
  f0 : w.frozen? ⟨p, 0, none⟩ = false
  f1 : w.frozen? ⟨p, 1, none⟩ = false

theorem Box.lt {w : World} {p : Nat} {x d : Int} (h : Box w p x d) : p < w.heap.size := lt_of_cell h.c0
theorem Box.below {w w' : World} {p : Nat} {x d : Int} (h : Box w p x d) (hb : Below w.heap.size w w') : Box w' p x d :=
  ⟨(hb.cell (p := ⟨p, 0, none⟩) h.lt).trans h.c0, (hb.cell (p := ⟨p, 1, none⟩) h.lt).trans h.c1, (hb.frozen (p := ⟨p, 0, none⟩) h.lt).trans h.f0, (hb.frozen (p := ⟨p, 1, none⟩) h.lt).trans h.f1⟩
theorem Box.else {w w' : World} {b p : Nat} {x d : Int} (h : Box w p x d) (he : Else b w w') (hp : p ≠ b) : Box w' p x d :=
  ⟨(he.cell (p := ⟨p, 0, none⟩) hp).trans h.c0, (he.cell (p := ⟨p, 1, none⟩) hp).trans h.c1, (he.frozen (p := ⟨p, 0, none⟩) hp).trans h.f0, (he.frozen (p := ⟨p, 1, none⟩) hp).trans h.f1⟩
theorem Box.alloc {w : World} {p : Nat} {x d : Int} (h : Box w p x d) (o : Obj) : Box (w.alloc o) p x d := h.below ((Below.refl _ _).alloc (Nat.le_refl _) o)
theorem Box.drewN {w : World} {p : Nat} {x d : Int} (h : Box w p x d) (n : Nat) : Box (w.drewN n) p x d := ⟨h.c0, h.c1, h.f0, h.f1⟩
theorem Box.new (w : World) (x d : Int) (t : TypeId) : Box (w.alloc (.cells #[.int .i64 x, .int .i64 d] t)) w.heap.size x d :=
  ⟨by go_simp, by go_simp, by go_simp, by go_simp⟩
theorem Box.other {w : World} {p q : Nat} {x d : Int} (h : Box w p x d) (hq : p ≠ q) (i : Nat) (v : Value) : Box (w.setCell ⟨q, i, none⟩ v) p x d := by
  have hb : (w.setCell ⟨q, i, none⟩ v).heap[p]? = w.heap[p]? := Below.heap_setCell _ _ _ _ hq
  exact ⟨(World.cell?_of_block (w := w) (a := ⟨p, 0, none⟩) hb).trans h.c0, (World.cell?_of_block (w := w) (a := ⟨p, 1, none⟩) hb).trans h.c1, (World.frozen?_of_block (w := w) (a := ⟨p, 0, none⟩) hb).trans h.f0, (World.frozen?_of_block (w := w) (a := ⟨p, 1, none⟩) hb).trans h.f1⟩
theorem Box.set {w : World} {p : Nat} {x d : Int} (h : Box w p x d) (x' d' : Int) : Box ((w.setCell ⟨p, 0, none⟩ (.int .i64 x')).setCell ⟨p, 1, none⟩ (.int .i64 d')) p x' d' := by
  obtain ⟨c0, c1, f0, f1⟩ := h
  exact ⟨by go_simp, by go_simp, by go_simp, by go_simp⟩
theorem Box.set0 {w : World} {p : Nat} {x d : Int} (h : Box w p x d) (x' : Int) : Box (w.setCell ⟨p, 0, none⟩ (.int .i64 x')) p x' d := by
  obtain ⟨c0, c1, f0, f1⟩ := h
  exact ⟨by go_simp, by go_simp, by go_simp, by go_simp⟩

end Go.Proofs.Ytjjaaknjdmijbaa

namespace Go.Proofs.Ytjjaaknjdmijbaa
open Go.RowKit
set_option linter.unusedSimpArgs false

set_option maxHeartbeats 800000 in
theorem rfinite_any (a : Option Addr) (n cap : Nat) (zs : List Int) (p inc : Int) (hp : In64 p) (hi : In64 inc) (b : Bool) (hb : finB zs p inc = b) (w : World) (h : RowZ w a n cap zs) :
    Calls Try.prog 125 #[curV a n cap p inc] w (Says (.bool b) w) := by
  have hB : Below w.heap.size w (w.alloc (.cells #[.slice a n cap, .int .i64 p, .int .i64 inc] 24)) := (Below.refl _ _).alloc (Nat.le_refl _) _
  have HBl := Lib.hid hB
  have H := Lib.hid (h.under hB)
  have HL := Lib.hid h.len
  have KF := Lib.hid (Cur3.new w (.slice a n cap) (.int .i64 p) (.int .i64 inc) 24)
  cases hok : okC zs p inc with
  | false =>
    obtain rfl : b = false := hb.symm.trans (finB_bad hok)
    have HO := Lib.hid hok
    clear h hB hb hok
    go_enter Try.func125, Try.ntmps125
    go_wp2_with fail
    refine (rvalid_any a n cap zs p inc hp hi false HO.out _ H.out).mono ?_
    rintro e w1 ⟨rfl, hb⟩
    go_wp2_with fail
    go_ret
    exact ⟨rfl, HBl.out.trans (hb.mono HBl.out.size)⟩
  | true =>
    obtain ⟨q, hq, g⟩ := okC_pos hok
    have hn1 : 1 ≤ n := by have := g.p1; have := g.p3; have := HL.out; omega
    have hcm := h.sm
    obtain ⟨j, hj⟩ : ∃ j, n = j + 1 := ⟨n - 1, by omega⟩
    obtain ⟨l, hl⟩ : ∃ l, zs.getD j 0 = l := ⟨_, rfl⟩
    have hbl : b = !decide (l = infV) := by rw [← hb, ← hl]; unfold finB; rw [hok, HL.out, show n - 1 = j by omega]; rfl
    have HO := Lib.hid hok
    have q1 : (n : Int) - 1 = (j : Int) := by omega
    have q2 : (j : Int) < (n : Int) := by omega
    have HJ := Lib.hid (And.intro hj hl)
    clear h hB hb hok hq g hj hl
    by_cases hf : l = infV
    · obtain rfl : b = false := by rw [hbl, decide_eq_true hf]; rfl
      have ht : (l != 4611686018427387904) = false := by simpa using hf
      clear hbl hf
      go_enter Try.func125, Try.ntmps125
      go_wp2_with fail
      refine (rvalid_any a n cap zs p inc hp hi true HO.out _ H.out).mono ?_
      rintro e w1 ⟨rfl, hb⟩
      obtain ⟨c0, c1, c2, f0, f1, f2⟩ := KF.out.below hb
      have HB1 := Lib.hid (HBl.out.trans (hb.mono HBl.out.size))
      obtain ⟨x, rfl, cl⟩ := (H.out.under hb).cell j (by omega)
      rw [HJ.out.2] at cl
      clear hb
      go_wp2_with fail
      go_ret
      exact ⟨rfl, HB1.out⟩
    · obtain rfl : b = true := by rw [hbl, decide_eq_false hf]; rfl
      have ht : (l != 4611686018427387904) = true := by simpa using hf
      clear hbl hf
      go_enter Try.func125, Try.ntmps125
      go_wp2_with fail
      refine (rvalid_any a n cap zs p inc hp hi true HO.out _ H.out).mono ?_
      rintro e w1 ⟨rfl, hb⟩
      obtain ⟨c0, c1, c2, f0, f1, f2⟩ := KF.out.below hb
      have HB1 := Lib.hid (HBl.out.trans (hb.mono HBl.out.size))
      obtain ⟨x, rfl, cl⟩ := (H.out.under hb).cell j (by omega)
      rw [HJ.out.2] at cl
      clear hb
      go_wp2_with fail
      go_ret
      exact ⟨rfl, HB1.out⟩

end Go.Proofs.Ytjjaaknjdmijbaa
