/- Contracts of the document's package of fractions, as package curve needs them: abs, Valid, New. By the verifier's side. | Contracts: the document's Finite, Start, Slope, Equal; Start and Equal at curves that are not valid. By the verifier's side. -/
import Derived.Test.YthljhddnfflpjaaHCurX
import Derived.RegionTactic
import Derived.WalkSpells
import Derived.Test.YthljhddnfflpjaaHRefP
import Derived.Test.YthljhddnfflpjaaHBaseApartPickKeepS
namespace Go.Proofs.Ythljhddnfflpjaa
open Go.RowKit
set_option linter.unusedSimpArgs false

end Go.Proofs.Ythljhddnfflpjaa

namespace Go.Proofs.Ythljhddnfflpjaa
open Go.RowKit
set_option linter.unusedSimpArgs false

set_option maxHeartbeats 800000 in
theorem rfinite_any (a : Option Addr) (n cap : Nat) (zs : List Int) (p inc : Int) (hp : In64 p) (hi : In64 inc) (b : Bool) (hb : finB zs p inc = b) (w : World) (h : RowZ w a n cap zs) :
    Calls Try.prog 107 #[curV a n cap p inc] w (Says (.bool b) w) := by
  have hB : Below w.heap.size w (w.alloc (.cells #[.slice a n cap, .int .i64 p, .int .i64 inc] 24)) := (Below.refl _ _).alloc (Nat.le_refl _) _
  have HBl := Lib.hid hB
  have H := Lib.hid (h.under hB)
  have HL := Lib.hid h.len
  have KF := Lib.hid (Cur3.new w (.slice a n cap) (.int .i64 p) (.int .i64 inc) 24)
  cases hok : okC zs p inc with
  | false =>
    obtain rfl : b = false := hb.symm.trans (finB_bad hok)
    have HO := Lib.hid hok
    clear h hB hb hok
    go_enter Try.func107, Try.ntmps107
    go_wp2_with fail
    refine (rvalid_any a n cap zs p inc hp hi false HO.out _ H.out).mono ?_
    rintro e w1 ⟨rfl, hb⟩
    go_wp2_with fail
    go_ret
    exact ⟨rfl, HBl.out.trans (hb.mono HBl.out.size)⟩
  | true =>
    obtain ⟨q, hq, g⟩ := okC_pos hok
    have hn1 : 1 ≤ n := by have := g.p1; have := g.p3; have := HL.out; omega
    have hcm := h.sm
    obtain ⟨j, hj⟩ : ∃ j, n = j + 1 := ⟨n - 1, by omega⟩
    obtain ⟨l, hl⟩ : ∃ l, zs.getD j 0 = l := ⟨_, rfl⟩
    have hbl : b = !decide (l = infV) := by rw [← hb, ← hl]; unfold finB; rw [hok, HL.out, show n - 1 = j by omega]; rfl
    have HO := Lib.hid hok
    have q1 : (n : Int) - 1 = (j : Int) := by omega
    have q2 : (j : Int) < (n : Int) := by omega
    have HJ := Lib.hid (And.intro hj hl)
    clear h hB hb hok hq g hj hl
    by_cases hf : l = infV
    · obtain rfl : b = false := by rw [hbl, decide_eq_true hf]; rfl
      have ht : (l != 4611686018427387904) = false := by simpa using hf
      clear hbl hf
      go_enter Try.func107, Try.ntmps107
      go_wp2_with fail
      refine (rvalid_any a n cap zs p inc hp hi true HO.out _ H.out).mono ?_
      rintro e w1 ⟨rfl, hb⟩
      obtain ⟨c0, c1, c2, f0, f1, f2⟩ := KF.out.below hb
      have HB1 := Lib.hid (HBl.out.trans (hb.mono HBl.out.size))
      obtain ⟨x, rfl, cl⟩ := (H.out.under hb).cell j (by omega)
      rw [HJ.out.2] at cl
      clear hb
      go_wp2_with fail
      go_ret
      exact ⟨rfl, HB1.out⟩
    · obtain rfl : b = true := by rw [hbl, decide_eq_false hf]; rfl
      have ht : (l != 4611686018427387904) = true := by simpa using hf
      clear hbl hf
      go_enter Try.func107, Try.ntmps107
      go_wp2_with fail
      refine (rvalid_any a n cap zs p inc hp hi true HO.out _ H.out).mono ?_
      rintro e w1 ⟨rfl, hb⟩
      obtain ⟨c0, c1, c2, f0, f1, f2⟩ := KF.out.below hb
      have HB1 := Lib.hid (HBl.out.trans (hb.mono HBl.out.size))
      obtain ⟨x, rfl, cl⟩ := (H.out.under hb).cell j (by omega)
      rw [HJ.out.2] at cl
      clear hb
      go_wp2_with fail
      go_ret
      exact ⟨rfl, HB1.out⟩

end Go.Proofs.Ythljhddnfflpjaa
