/- Contracts: curve.Normal, the document's Same. By the verifier's side. -/
import Derived.Test.YthljhddnfflpjaaCCurF
namespace Go.Proofs.Ythljhddnfflpjaa
open Go.RowKit
set_option linter.unusedSimpArgs false

/-- A curve and an error's number are handed back. -/
def GivesNorm2 (zs : List Int) (p : Nat) (inc : Int) (w : World) (e : Ending) (w' : World) : Prop :=
  ∃ a n cap zs' p' inc', e = .returned (.tuple #[curV a n cap (p' : Nat) inc', .int .i64 0]) ∧ Below w.heap.size w w' ∧ RowZ w' a n cap zs' ∧ NormC zs p inc zs' p' inc' ∧ ∀ x, a = some x → w.heap.size ≤ x.block

theorem norm_post2 {w w2 : World} {b : Nat} (hb : Below w.heap.size w w2) (hwb : w.heap.size ≤ b) {a : Option Addr} {n cap : Nat} {zs' : List Int} (hr : RowZ w2 a n cap zs') (hlt : ∀ x, a = some x → b < x.block) (p' : Nat) (inc' : Int)
    {zs : List Int} {p : Nat} {inc : Int} (hn : NormC zs p inc zs' p' inc') :
    GivesNorm2 zs p inc w (.returned (.tuple #[curV a n cap p' inc', .int .i64 0])) (((w2.setCell ⟨b, 0, none⟩ (.slice a n cap)).setCell ⟨b, 1, none⟩ (.int .i64 p')).setCell ⟨b, 2, none⟩ (.int .i64 inc')) := by
  obtain ⟨a2, n2, cap2, zs2, p2, inc2, he, h1, h2, h3, h4⟩ := norm_post hb hwb hr hlt p' inc' hn
  simp only [Ending.returned.injEq, curV, Value.agg.injEq] at he
  simp at he
  obtain ⟨⟨rfl, rfl, rfl⟩, h5, rfl⟩ := he
  obtain rfl : p' = p2 := by omega
  exact ⟨a, n, cap, zs2, p', inc', rfl, h1, h2, h3, h4⟩

set_option maxHeartbeats 800000 in
theorem normal_ok (a : Option Addr) (n cap : Nat) (zs : List Int) (p : Nat) (inc : Int) (g : Good zs p inc) (w : World) (h : RowZ w a n cap zs) :
    Calls Try.prog 136 #[curV a n cap p inc] w (GivesNorm2 zs p inc w) := by
  have hB : Below w.heap.size w ((w.alloc (.cells #[.slice a n cap, .int .i64 p, .int .i64 inc] 24)).alloc (.cells #[.slice none 0 0, .int .i64 0, .int .i64 0] 24)) :=
    ((Below.refl _ _).alloc (Nat.le_refl _) _).alloc (by simp) _
  have HBl := Lib.hid hB
  have H := Lib.hid (h.under hB)
  have HB := Lib.hid ((okC_iff zs p inc).2 g)
  have G := Lib.hid g
  have a1 := g.p2; have a2 := g.i0; have a3 := g.i1
  clear h hB g
  go_enter Try.func136, Try.ntmps136
  go_wp2_with fail
  refine (valid_any a n cap zs p inc ⟨by omega, by omega⟩ ⟨by omega, by omega⟩ true HB.out _ H.out).mono ?_
  rintro e w1 ⟨rfl, hb⟩
  have KF := Lib.hid ((Cur3.new w (.slice a n cap) (.int .i64 p) (.int .i64 inc) 24).below (((Below.refl _ _).alloc (Nat.le_refl _) (.cells #[.slice none 0 0, .int .i64 0, .int .i64 0] 24)).trans (hb.mono (by simp))))
  have KR := Lib.hid ((Cur3.new2 w (.slice none 0 0) (.int .i64 0) (.int .i64 0) 24 (.cells #[.slice a n cap, .int .i64 p, .int .i64 inc] 24)).below hb)
  have H1 := Lib.hid (H.out.under hb)
  have HB1 := Lib.hid (HBl.out.trans (hb.mono HBl.out.size))
  clear hb
  obtain ⟨c0, c1, c2, f0, f1, f2⟩ := KF.out
  go_wp2_with fail
  refine (reduced_any a n cap zs p inc G.out _ H1.out).mono ?_
  rintro e w2 ⟨a', n', cap', zs', p', inc', rfl, hb2, hr2, hn2, hx2⟩
  clear c0 c1 c2 f0 f1 f2
  obtain ⟨c0, c1, c2, f0, f1, f2⟩ := KR.out.below hb2
  have hlt3 := KR.out.lt
  have HP := Lib.hid (norm_post2 (b := w.heap.size + 1) (HB1.out.trans (hb2.mono HB1.out.size)) (Nat.le_succ _) hr2 (fun y hy => by have := hx2 y hy; omega) p' inc' hn2)
  clear hb2 hr2 hn2 hx2 hlt3
  go_wp2_with fail
  exact bodyPost_ret (v := .tuple #[curV a' n' cap' p' inc', .int .i64 0]) (by simp [results, Try.results136, go_sem, c0, c1, c2]) rfl HP.out

end Go.Proofs.Ythljhddnfflpjaa
