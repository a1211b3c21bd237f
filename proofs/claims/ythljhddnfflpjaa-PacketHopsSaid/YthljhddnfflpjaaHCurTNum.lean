/- Contracts of package fraction: magnitude, divisor, New. By the verifier's side. -/
import Derived.Test.YthljhddnfflpjaaHBaseApartPickKeepS
import Derived.WalkKit
import Derived.LoopTactic
import Derived.BigRegion
import Derived.Laws.ResultCell
import Derived.Test.YthljhddnfflpjaaHCurFCurG
namespace Go.Proofs.Ythljhddnfflpjaa
open Go.RowKit

theorem gcd_step (x y : Nat) : y.gcd (x % y) = x.gcd y := by rw [Nat.gcd_comm, ← Nat.gcd_rec, Nat.gcd_comm]

end Go.Proofs.Ythljhddnfflpjaa

namespace Go.Proofs.Ythljhddnfflpjaa
open Go.RowKit
set_option linter.unusedSimpArgs false

/-- Is it a valid curve whose last value is finite? -/
def finB (zs : List Int) (p inc : Int) : Bool := okC zs p inc && !decide (zs.getD (zs.length - 1) 0 = infV)

theorem finB_bad {zs : List Int} {p inc : Int} (h : okC zs p inc = false) : finB zs p inc = false := by unfold finB; rw [h]; rfl
theorem finB_inf {zs : List Int} {p inc : Int} (h : zs.getD (zs.length - 1) 0 = infV) : finB zs p inc = false := by unfold finB; rw [decide_eq_true h]; simp
theorem finB_fin {zs : List Int} {p inc : Int} (h : okC zs p inc = true) (hf : ¬ zs.getD (zs.length - 1) 0 = infV) : finB zs p inc = true := by unfold finB; rw [h, decide_eq_false hf]; rfl

set_option maxHeartbeats 800000 in
theorem finite_any (a : Option Addr) (n cap : Nat) (zs : List Int) (p inc : Int) (hp : In64 p) (hi : In64 inc) (b : Bool) (hb : finB zs p inc = b) (w : World) (h : RowZ w a n cap zs) :
    Calls Try.prog 192 #[curV a n cap p inc] w (Says (.bool b) w) := by
  have hB : Below w.heap.size w (w.alloc (.cells #[.slice a n cap, .int .i64 p, .int .i64 inc] 24)) := (Below.refl _ _).alloc (Nat.le_refl _) _
  have HBl := Lib.hid hB
  have H := Lib.hid (h.under hB)
  have HL := Lib.hid h.len
  have KF := Lib.hid (Cur3.new w (.slice a n cap) (.int .i64 p) (.int .i64 inc) 24)
  cases hok : okC zs p inc with
  | false =>
    obtain rfl : b = false := hb.symm.trans (finB_bad hok)
    have HO := Lib.hid hok
    clear h hB hb hok
    go_enter Try.func192, Try.ntmps192
    go_wp2_with fail
    refine (valid_any a n cap zs p inc hp hi false HO.out _ H.out).mono ?_
    rintro e w1 ⟨rfl, hb⟩
    go_wp2_with fail
    go_ret
    exact ⟨rfl, HBl.out.trans (hb.mono HBl.out.size)⟩
  | true =>
    obtain ⟨q, hq, g⟩ := okC_pos hok
    have hn1 : 1 ≤ n := by have := g.p1; have := g.p3; have := HL.out; omega
    have hcm := h.sm
    obtain ⟨j, hj⟩ : ∃ j, n = j + 1 := ⟨n - 1, by omega⟩
    obtain ⟨l, hl⟩ : ∃ l, zs.getD j 0 = l := ⟨_, rfl⟩
    have hbl : b = !decide (l = infV) := by rw [← hb, ← hl]; unfold finB; rw [hok, HL.out, show n - 1 = j by omega]; rfl
    have HO := Lib.hid hok
    have q1 : (n : Int) - 1 = (j : Int) := by omega
    have q2 : (j : Int) < (n : Int) := by omega
    have HJ := Lib.hid (And.intro hj hl)
    clear h hB hb hok hq g hj hl
    by_cases hf : l = infV
    · obtain rfl : b = false := by rw [hbl, decide_eq_true hf]; rfl
      have ht : (l != 4611686018427387904) = false := by simpa using hf
      clear hbl hf
      go_enter Try.func192, Try.ntmps192
      go_wp2_with fail
      refine (valid_any a n cap zs p inc hp hi true HO.out _ H.out).mono ?_
      rintro e w1 ⟨rfl, hb⟩
      obtain ⟨c0, c1, c2, f0, f1, f2⟩ := KF.out.below hb
      have HB1 := Lib.hid (HBl.out.trans (hb.mono HBl.out.size))
      obtain ⟨x, rfl, cl⟩ := (H.out.under hb).cell j (by omega)
      rw [HJ.out.2] at cl
      clear hb
      go_wp2_with fail
      go_ret
      exact ⟨rfl, HB1.out⟩
    · obtain rfl : b = true := by rw [hbl, decide_eq_false hf]; rfl
      have ht : (l != 4611686018427387904) = true := by simpa using hf
      clear hbl hf
      go_enter Try.func192, Try.ntmps192
      go_wp2_with fail
      refine (valid_any a n cap zs p inc hp hi true HO.out _ H.out).mono ?_
      rintro e w1 ⟨rfl, hb⟩
      obtain ⟨c0, c1, c2, f0, f1, f2⟩ := KF.out.below hb
      have HB1 := Lib.hid (HBl.out.trans (hb.mono HBl.out.size))
      obtain ⟨x, rfl, cl⟩ := (H.out.under hb).cell j (by omega)
      rw [HJ.out.2] at cl
      clear hb
      go_wp2_with fail
      go_ret
      exact ⟨rfl, HB1.out⟩

/-- The start of the normal form is handed back. -/
def StartsAt (zs : List Int) (p : Nat) (inc : Int) (w : World) (e : Ending) (w' : World) : Prop :=
  ∃ zs' p' inc', NormC zs p inc zs' p' inc' ∧ e = .returned (.int .i64 (zs'.length - p' : Nat)) ∧ Below w.heap.size w w'

theorem norm_p3 {zs zs' : List Int} {p p' : Nat} {inc inc' : Int} (g : Good zs p inc) (h : NormC zs p inc zs' p' inc') : 1 ≤ p' ∧ p' ≤ 120 ∧ p' ≤ zs'.length ∧ zs'.length ≤ 400 ∧ 0 ≤ inc' ∧ inc' ≤ 1073741824 :=
  ⟨(h.good g).p1, (h.good g).p2, (h.good g).p3, (h.good g).few, (h.good g).i0, (h.good g).i1⟩

set_option maxHeartbeats 800000 in
theorem start_ok (a : Option Addr) (n cap : Nat) (zs : List Int) (p : Nat) (inc : Int) (g : Good zs p inc) (w : World) (h : RowZ w a n cap zs) :
    Calls Try.prog 95 #[curV a n cap p inc] w (StartsAt zs p inc w) := by
  have hB : Below w.heap.size w (w.alloc (.cells #[.slice a n cap, .int .i64 p, .int .i64 inc] 24)) := (Below.refl _ _).alloc (Nat.le_refl _) _
  have HBl := Lib.hid hB
  have H := Lib.hid (h.under hB)
  have G := Lib.hid g
  clear h hB g
  go_enter Try.func95, Try.ntmps95
  go_wp2_with fail
  refine (normal_ok a n cap zs p inc G.out _ H.out).mono ?_
  rintro e w1 ⟨a', n', cap', zs', p', inc', rfl, hb, hr, hn, hx⟩
  obtain ⟨b1, b2, b3, b4, b5, b6⟩ := norm_p3 G.out hn
  have HB1 := Lib.hid (HBl.out.trans (hb.mono HBl.out.size))
  have hl := hr.len
  rw [hl] at b3 b4
  obtain ⟨s, hs⟩ : ∃ s, n' = s + p' := ⟨n' - p', by omega⟩
  have q1 : (n' : Int) - (p' : Int) = (s : Int) := by omega
  have HN := Lib.hid (And.intro hn (And.intro hl hs))
  clear hb hr hn hx hl hs
  go_wp2_with fail
  go_ret
  refine ⟨zs', p', inc', HN.out.1, ret_int ?_, HB1.out.alloc HB1.out.size _⟩
  have h1 := HN.out.2.1
  have h2 := HN.out.2.2
  omega

theorem start_at (a : Option Addr) (n cap : Nat) (zs : List Int) (p : Nat) (inc : Int) (g : Good zs p inc) {zs' : List Int} {p' : Nat} {inc' : Int} (hn : NormC zs p inc zs' p' inc') (s : Nat) (hs : zs'.length = s + p') (w : World) (h : RowZ w a n cap zs) :
    Calls Try.prog 95 #[curV a n cap p inc] w (Says (.int .i64 s) w) := by
  refine (start_ok a n cap zs p inc g w h).mono ?_
  rintro e w1 ⟨zs2, p2, inc2, hn2, rfl, hb⟩
  obtain ⟨rfl, rfl, rfl⟩ := hn2.canon g g hn (fun _ => rfl)
  exact ⟨ret_int (by omega), hb⟩

theorem value_at (a : Option Addr) (n cap : Nat) (zs : List Int) (p : Nat) (inc : Int) (g : Good zs p inc) (ti : Int) (t : Nat) (hti : ti = t) (ht : t ≤ 1048576) (v : Int) (hv : atC zs p inc t = v) (w : World) (h : RowZ w a n cap zs) :
    Calls Try.prog 81 #[curV a n cap p inc, .int .i64 ti] w (Pair v 0 w) := by subst hti hv; exact value_ok a n cap zs p inc g t ht w h

end Go.Proofs.Ythljhddnfflpjaa
