/- Contracts of the document's At, periodic, Least and Made at functions that are given like curves, perhaps beyond the limits. By the verifier's side. | The document's operations on pairs of curves: their beginning, and lists that grow value by value. By the verifier's side. | The document's Sum by its meaning. By the verifier's side. -/
import Derived.Test.YtjjaaknjdmijbaaQePwMPwOPwXR56MConMNDecM
import Derived.Test.YtjjaaknjdmijbaaQeRefP
import Derived.Test.YtjjaaknjdmijbaaQePwEToRowF
import Derived.Test.YtjjaaknjdmijbaaQeCurSToCurveNormalW
import Derived.Test.YtjjaaknjdmijbaaQeRefO
import Derived.BigRegion
namespace Go.Proofs.Ytjjaaknjdmijbaa
open Go.RowKit
set_option linter.unusedSimpArgs false

end Go.Proofs.Ytjjaaknjdmijbaa

namespace Go.Proofs.Ytjjaaknjdmijbaa
open Go.RowKit
set_option linter.unusedSimpArgs false
set_option linter.unusedVariables false

/-! ## A list that grows value by value -/

/-- A curve's box stands behind W, and lists the first k values of f. -/
structure Ap (W : World) (p inc : Int) (f : Nat → Int) (k : Nat) (sv : Value) (u : World) : Prop where
  below : Below W.heap.size W u
  out : Cur3 u W.heap.size sv (.int .i64 p) (.int .i64 inc)
  own : u.ownsRow (W.heap.size + 1) 3 1 sv k ((firsts f k).map (Value.int .i64))
theorem Ap.start (W : World) (p inc : Int) (f : Nat → Int) : Ap W p inc f 0 (.slice none 0 0) (W.alloc (.cells #[.slice none 0 0, .int .i64 p, .int .i64 inc] 24)) :=
  ⟨(Below.refl _ _).alloc (Nat.le_refl _) _, Cur3.new W _ _ _ _, World.ownsRow_nil _ _ _ _⟩
theorem Ap.under {W : World} {p inc : Int} {f : Nat → Int} {k : Nat} {sv : Value} {u v : World} (h : Ap W p inc f k sv u) (hb : Below u.heap.size u v) : Ap W p inc f k sv v :=
  ⟨h.below.trans (hb.mono h.below.size), h.out.below hb, owns_apart h.own (below_apart (b := W.heap.size) hb) (by omega)⟩
theorem Ap.alloc {W : World} {p inc : Int} {f : Nat → Int} {k : Nat} {sv : Value} {u : World} (h : Ap W p inc f k sv u) (o : Obj) : Ap W p inc f k sv (u.alloc o) := h.under ((Below.refl _ _).alloc (Nat.le_refl _) o)
theorem Ap.drew {W : World} {p inc : Int} {f : Nat → Int} {k : Nat} {sv : Value} {u : World} (h : Ap W p inc f k sv u) : Ap W p inc f k sv u.drew := h.under (Below.refl _ _).drew
theorem Ap.row {W : World} {p inc : Int} {f : Nat → Int} {k : Nat} {sv : Value} {u : World} (h : Ap W p inc f k sv u) (h1 : 1 ≤ k) (hk : k ≤ 100000) (hb : ∀ t, t < k → In64 (f t)) :
    ∃ g cap, sv = .slice (some ⟨g, 0, none⟩) k cap ∧ RowZ u (some ⟨g, 0, none⟩) k cap (firsts f k) ∧ W.heap.size < g := by
  obtain ⟨g, cap, rfl, hg, hg'⟩ := h.own.form (by omega)
  obtain ⟨a9, c9, hv9, R9, X9⟩ := rowZ_of_owns h.own (by omega) (fun i hi => by rw [firsts_length] at hi; rw [firsts_getD _ _ _ hi]; exact hb i hi)
  cases hv9
  exact ⟨g, cap, rfl, R9, by have := X9 _ rfl; show W.heap.size + 1 ≤ g; exact this⟩

/-! ## The beginning of the operations on pairs -/

def GivesPair (z1 : List Int) (p1 : Nat) (i1 : Int) (z2 : List Int) (p2 : Nat) (i2 : Int) (l c : Int) (w : World) (e : Ending) (w' : World) : Prop :=
  ∃ (a1 : Option Addr) (n1 c1 : Nat) (y1 : List Int) (q1 : Nat) (j1 : Int) (a2 : Option Addr) (n2 c2 : Nat) (y2 : List Int) (q2 : Nat) (j2 : Int), e = .returned (.tuple #[curV a1 n1 c1 q1 j1, curV a2 n2 c2 q2 j2, .int .i64 l, .int .i64 c]) ∧ Below w.heap.size w w' ∧ RowZ w' a1 n1 c1 y1 ∧ RowZ w' a2 n2 c2 y2 ∧ NormC z1 p1 i1 y1 q1 j1 ∧ NormC z2 p2 i2 y2 q2 j2 ∧ (∀ x, a1 = some x → w.heap.size ≤ x.block) ∧ ∀ x, a2 = some x → w.heap.size ≤ x.block
def GivesPairBad (w : World) (e : Ending) (w' : World) : Prop :=
  ∃ (a1 : Option Addr) (n1 c1 : Nat) (q1 j1 : Int) (a2 : Option Addr) (n2 c2 : Nat) (q2 j2 : Int), e = .returned (.tuple #[curV a1 n1 c1 q1 j1, curV a2 n2 c2 q2 j2, .int .i64 0, .int .i64 1]) ∧ Below w.heap.size w w'

theorem boxes4 (w : World) (a1 : Option Addr) (n1 cap1 : Nat) (p1 i1 : Int) (a2 : Option Addr) (n2 cap2 : Nat) (p2 i2 : Int) {W : World} (hW : (((w.alloc (.cells #[.slice a1 n1 cap1, .int .i64 p1, .int .i64 i1] 24)).alloc (.cells #[.slice a2 n2 cap2, .int .i64 p2, .int .i64 i2] 24)).alloc (.cells #[.slice none 0 0, .int .i64 0, .int .i64 0] 24)).alloc (.cells #[.slice none 0 0, .int .i64 0, .int .i64 0] 24) = W) :
    (Below w.heap.size w W ∧ W.heap.size = w.heap.size + 4) ∧ Cur3 W w.heap.size (.slice a1 n1 cap1) (.int .i64 p1) (.int .i64 i1) ∧ Cur3 W (w.heap.size + 1) (.slice a2 n2 cap2) (.int .i64 p2) (.int .i64 i2) ∧ Cur3 W (w.heap.size + 2) (.slice none 0 0) (.int .i64 0) (.int .i64 0) ∧ Cur3 W (w.heap.size + 3) (.slice none 0 0) (.int .i64 0) (.int .i64 0) := by
  subst hW
  refine ⟨⟨((((Below.refl _ _).alloc (Nat.le_refl _) _).alloc (by simp) _).alloc (by simp; omega) _).alloc (by simp; omega) _, by simp⟩, (((Cur3.new w _ _ _ _).alloc _).alloc _).alloc _, ((Cur3.new2 w _ _ _ _ _).alloc _).alloc _, ?_, ?_⟩
  · have := (Cur3.new2 (w.alloc (.cells #[.slice a1 n1 cap1, .int .i64 p1, .int .i64 i1] 24)) (.slice none 0 0) (.int .i64 0) (.int .i64 0) 24 (.cells #[.slice a2 n2 cap2, .int .i64 p2, .int .i64 i2] 24)).alloc (.cells #[.slice none 0 0, .int .i64 0, .int .i64 0] 24)
    simpa using this
  · have := Cur3.new2 ((w.alloc (.cells #[.slice a1 n1 cap1, .int .i64 p1, .int .i64 i1] 24)).alloc (.cells #[.slice a2 n2 cap2, .int .i64 p2, .int .i64 i2] 24)) (.slice none 0 0) (.int .i64 0) (.int .i64 0) 24 (.cells #[.slice none 0 0, .int .i64 0, .int .i64 0] 24)
    simpa using this

theorem pair_post {w w3 : World} {s A B : Nat} (hs : w.heap.size = s) (hB : Below s w w3) (hA : A = s + 2) (hB2 : B = s + 3) {z1 : List Int} {p1 : Nat} {i1 : Int} {z2 : List Int} {p2 : Nat} {i2 l c : Int} {b1 : Option Addr} {m1 c1 : Nat} {y1 : List Int} {q1 : Nat} {j1 : Int} {b2 : Option Addr} {m2 c2 : Nat} {y2 : List Int} {q2 : Nat} {j2 : Int}
    (h1 : RowZ w3 b1 m1 c1 y1) (h2 : RowZ w3 b2 m2 c2 y2) (x1 : ∀ x, b1 = some x → s + 4 ≤ x.block) (x2 : ∀ x, b2 = some x → s + 4 ≤ x.block) (n1 : NormC z1 p1 i1 y1 q1 j1) (n2 : NormC z2 p2 i2 y2 q2 j2) :
    GivesPair z1 p1 i1 z2 p2 i2 l c w (.returned (.tuple #[curV b1 m1 c1 q1 j1, curV b2 m2 c2 q2 j2, .int .i64 l, .int .i64 c])) (((((((w3.setCell ⟨A, 0, none⟩ (.slice b1 m1 c1)).setCell ⟨A, 1, none⟩ (.int .i64 q1)).setCell ⟨A, 2, none⟩ (.int .i64 j1)).setCell ⟨B, 0, none⟩ (.slice b2 m2 c2)).setCell ⟨B, 1, none⟩ (.int .i64 q2)).setCell ⟨B, 2, none⟩ (.int .i64 j2)).drew) := by
  subst hs hA hB2
  have k1 : ∀ b, b < w.heap.size + 4 → ∀ x, b1 = some x → 1 ≤ m1 → x.block ≠ b := fun b hb x hx _ => by have := x1 x hx; omega
  have k2 : ∀ b, b < w.heap.size + 4 → ∀ x, b2 = some x → 1 ≤ m2 → x.block ≠ b := fun b hb x hx _ => by have := x2 x hx; omega
  have e1 := fun b hb => k1 b hb
  have e2 := fun b hb => k2 b hb
  exact ⟨b1, m1, c1, y1, q1, j1, b2, m2, c2, y2, q2, j2, rfl, (below_set3 (below_set3 hB (by omega) _ _ _) (by omega) _ _ _).drew,
    ((((((h1.store (k1 _ (by omega)) _ _).store (k1 _ (by omega)) _ _).store (k1 _ (by omega)) _ _).store (k1 _ (by omega)) _ _).store (k1 _ (by omega)) _ _).store (k1 _ (by omega)) _ _).under (Below.refl _ _).drew,
    ((((((h2.store (k2 _ (by omega)) _ _).store (k2 _ (by omega)) _ _).store (k2 _ (by omega)) _ _).store (k2 _ (by omega)) _ _).store (k2 _ (by omega)) _ _).store (k2 _ (by omega)) _ _).under (Below.refl _ _).drew,
    n1, n2, fun x hx => by have := x1 x hx; omega, fun x hx => by have := x2 x hx; omega⟩

set_option maxRecDepth 100000 in
set_option maxHeartbeats 3200000 in
theorem rpair_any (a1 : Option Addr) (n1 cap1 : Nat) (z1 : List Int) (p1 : Nat) (i1 : Int) (g1 : Good z1 p1 i1) (a2 : Option Addr) (n2 cap2 : Nat) (z2 : List Int) (p2 : Nat) (i2 : Int) (g2 : Good z2 p2 i2) (L : Nat) (hL : LcmN z1 p1 i1 z2 p2 i2 L) (l c : Int) (hl : l = if 120 < L then 0 else (L : Int)) (hc : c = if 120 < L then 3 else 0) (w : World) (h1 : RowZ w a1 n1 cap1 z1) (h2 : RowZ w a2 n2 cap2 z2) :
    Calls Try.prog 78 #[curV a1 n1 cap1 p1 i1, curV a2 n2 cap2 p2 i2] w (GivesPair z1 p1 i1 z2 p2 i2 l c w) := by
  obtain ⟨W, hW⟩ : ∃ W, (((w.alloc (.cells #[.slice a1 n1 cap1, .int .i64 p1, .int .i64 i1] 24)).alloc (.cells #[.slice a2 n2 cap2, .int .i64 p2, .int .i64 i2] 24)).alloc (.cells #[.slice none 0 0, .int .i64 0, .int .i64 0] 24)).alloc (.cells #[.slice none 0 0, .int .i64 0, .int .i64 0] 24) = W := ⟨_, rfl⟩
  obtain ⟨⟨hB, hWs⟩, kf, kg, ka, kb⟩ := boxes4 w a1 n1 cap1 p1 i1 a2 n2 cap2 p2 i2 hW
  have HB := Lib.hid hB
  have KG := Lib.hid kg
  have KA := Lib.hid ka
  have KB := Lib.hid kb
  have HR := Lib.hid (And.intro (h1.under hB) (h2.under hB))
  have HG := Lib.hid (And.intro g1 g2)
  have HL := Lib.hid hL
  have HC := Lib.hid (And.intro hl hc)
  have HS := Lib.hid hWs
  have hW1 := hW
  obtain ⟨s, hs⟩ : ∃ s, w.heap.size = s := ⟨_, rfl⟩
  have HSS := Lib.hid hs
  obtain ⟨m0, m1, m2, m3, m4, m5⟩ := kf
  rw [hs] at m0 m1 m2 m3 m4 m5
  clear h1 h2 hB kg ka kb g1 g2 hL hW hl hc hWs
  go_enter Try.func78, Try.ntmps78
  go_wp2_with fail
  try rw [hW1]
  clear hW1 m0 m1 m2 m3 m4 m5
  refine (rnormal_ok a1 n1 cap1 z1 p1 i1 HG.out.1 _ HR.out.1).mono ?_
  rintro e v1 ⟨b1, m1, c1, y1, q1, j1, rfl, hb, hr, hn, hx⟩
  obtain ⟨w1, hw⟩ : ∃ W, v1.alloc (.cells #[.slice b1 m1 c1, .int .i64 q1, .int .i64 j1] 24) = W := ⟨_, rfl⟩
  have hz : Below W.heap.size W w1 := by rw [← hw]; exact hb.trans ((below_box _).mono hb.size)
  have KG1 := Lib.hid (KG.out.below hz)
  have KA1 := Lib.hid (KA.out.below hz)
  have KB1 := Lib.hid (KB.out.below hz)
  have HB1 := Lib.hid (HB.out.trans (hz.mono HB.out.size))
  have R2 := Lib.hid (HR.out.2.under hz)
  have X1 := Lib.hid (show Bx w1 v1.heap.size b1 m1 c1 q1 j1 y1 by rw [← hw]; exact Bx.new hr)
  have N1 := Lib.hid hn
  have F1 := Lib.hid (show ∀ x, b1 = some x → w.heap.size + 4 ≤ x.block from fun x h => by have := hx x h; have := HS.out; omega)
  have S1 := Lib.hid (show w.heap.size + 4 ≤ v1.heap.size by have := hb.size; have := HS.out; omega)
  have hw1 := hw
  obtain ⟨g0, g1, g2, g3, g4, g5⟩ := KG1.out
  clear hb hr hn hx hw hz
  rw [hs] at g0 g1 g2 g3 g4 g5
  go_wp2_with fail
  try rw [hw1]
  clear hw1 g0 g1 g2 g3 g4 g5
  refine (rnormal_ok a2 n2 cap2 z2 p2 i2 HG.out.2 _ R2.out).mono ?_
  rintro e v2 ⟨b2, m2, c2, y2, q2, j2, rfl, hb, hr, hn, hx⟩
  obtain ⟨w2, hw⟩ : ∃ W, v2.alloc (.cells #[.slice b2 m2 c2, .int .i64 q2, .int .i64 j2] 24) = W := ⟨_, rfl⟩
  have hz : Below w1.heap.size w1 w2 := by rw [← hw]; exact hb.trans ((below_box _).mono hb.size)
  have KA2 := Lib.hid (KA1.out.below hz)
  have KB2 := Lib.hid (KB1.out.below hz)
  have HB2 := Lib.hid (HB1.out.trans (hz.mono HB1.out.size))
  have X12 := Lib.hid (X1.out.under hz)
  have X2 := Lib.hid (show Bx w2 v2.heap.size b2 m2 c2 q2 j2 y2 by rw [← hw]; exact Bx.new hr)
  have N2 := Lib.hid hn
  have F2 := Lib.hid (show ∀ x, b2 = some x → w.heap.size + 4 ≤ x.block from fun x h => by have := hx x h; have := HB1.out.size; have := X1.out.box.lt; have := S1.out; omega)
  have S2 := Lib.hid (show w.heap.size + 4 ≤ v2.heap.size by have := hb.size; have := X1.out.box.lt; have := S1.out; omega)
  have hw2 := hw
  have e1 := N1.out.good HG.out.1
  have e2 := hn.good HG.out.2
  have hq1 := e1.p1
  have hq1' := e1.p2
  have hq2 := e2.p1
  have hq2' := e2.p2
  have hLL : q1 / Nat.gcd q1 q2 * q2 = L := by
    obtain ⟨u1, r1, k1, u2, r2, k2, n1, n2, e⟩ := HL.out
    obtain ⟨_, rfl, _⟩ := n1.canon HG.out.1 HG.out.1 N1.out (fun _ => rfl)
    obtain ⟨_, rfl, _⟩ := n2.canon HG.out.2 HG.out.2 hn (fun _ => rfl)
    exact e
  have HLL := Lib.hid hLL
  clear hb hr hn hx hw hz hLL e1 e2
  obtain ⟨g0, g1, g2, g3, g4, g5⟩ := X12.out.box
  obtain ⟨d0, d1, d2, d3, d4, d5⟩ := X2.out.box
  go_wp2_with fail
  try rw [hw2]
  clear hw2
  refine (lcm_at q1 q2 L HLL.out hq1 (by omega) hq2 (by omega) _).mono ?_
  rintro e w3 ⟨rfl, nd, rfl⟩
  have KA3 := Lib.hid (KA2.out.drewN nd)
  have KB3 := Lib.hid (KB2.out.drewN nd)
  have X13 := Lib.hid (X12.out.under ((Below.refl _ _).drewN nd))
  have X23 := Lib.hid (X2.out.under ((Below.refl _ _).drewN nd))
  have HB3 := Lib.hid (show Below s w (w2.drewN nd) by rw [← hs]; exact HB2.out.drewN nd)
  obtain ⟨w3, hw3⟩ : ∃ W, w2.drewN nd = W := ⟨_, rfl⟩
  rw [hw3] at KA3 KB3 X13 X23 HB3 ⊢
  obtain ⟨A, hA⟩ : ∃ A, A = s + 2 := ⟨_, rfl⟩
  obtain ⟨B, hBB⟩ : ∃ B, B = A + 1 := ⟨_, rfl⟩
  have HP := Lib.hid (show GivesPair z1 p1 i1 z2 p2 i2 l c w _ _ from pair_post (A := A) (B := B) hs HB3.out hA (by omega) X13.out.row X23.out.row (fun x h => by have := F1.out x h; omega) (fun x h => by have := F2.out x h; omega) N1.out N2.out)
  clear g0 g1 g2 g3 g4 g5 d0 d1 d2 d3 d4 d5
  obtain ⟨g0, g1, g2, g3, g4, g5⟩ := X13.out.box
  obtain ⟨d0, d1, d2, d3, d4, d5⟩ := X23.out.box
  obtain ⟨k0, k1, k2, k3, k4, k5⟩ := KA3.out
  obtain ⟨r0, r1, r2, r3, r4, r5⟩ := KB3.out
  have l1 : s + 4 ≤ v1.heap.size := by have := S1.out; omega
  have l2 : s + 4 ≤ v2.heap.size := by have := S2.out; omega
  rw [hs, ← hA] at k0 k1 k2 k3 k4 k5
  rw [hs, show s + 3 = B by omega] at r0 r1 r2 r3 r4 r5
  have t1 : ¬ A = B := by omega
  have t1' : ¬ B = A := by omega
  have t2 : ¬ A = v1.heap.size := by omega
  have t3 : ¬ B = v1.heap.size := by omega
  have t4 : ¬ A = v2.heap.size := by omega
  have t5 : ¬ B = v2.heap.size := by omega
  have t2' : ¬ v1.heap.size = A := by omega
  have t3' : ¬ v1.heap.size = B := by omega
  have t4' : ¬ v2.heap.size = A := by omega
  have t5' : ¬ v2.heap.size = B := by omega
  have HAB := Lib.hid (And.intro hA hBB)
  rw [← hA, ← hBB]
  clear hA hBB l1 l2 hw3
  by_cases h120 : 120 < L
  · have h120' : (120 : Int) < (L : Int) := by omega
    obtain ⟨el, ec⟩ := HC.out
    rw [if_pos h120] at el ec
    subst el ec
    clear h120
    go_upto_region 7 with fail
    go_region
    go_wp2_with fail
    exact bodyPost_ret (v := .tuple #[curV b1 m1 c1 q1 j1, curV b2 m2 c2 q2 j2, .int .i64 0, .int .i64 3]) (by simp [results, Try.results78, go_sem, k0, k1, k2, k3, k4, k5, r0, r1, r2, r3, r4, r5, t1, t1']) rfl HP.out
  · have h120' : ¬ (120 : Int) < (L : Int) := by omega
    obtain ⟨el, ec⟩ := HC.out
    rw [if_neg h120] at el ec
    subst el ec
    clear h120
    go_upto_region 8 with fail
    go_region
    go_wp2_with fail
    exact bodyPost_ret (v := .tuple #[curV b1 m1 c1 q1 j1, curV b2 m2 c2 q2 j2, .int .i64 (L : Int), .int .i64 0]) (by simp [results, Try.results78, go_sem, k0, k1, k2, k3, k4, k5, r0, r1, r2, r3, r4, r5, t1, t1']) rfl HP.out

end Go.Proofs.Ytjjaaknjdmijbaa

namespace Go.Proofs.Ytjjaaknjdmijbaa
open Go.RowKit
set_option linter.unusedSimpArgs false
set_option linter.unusedVariables false

end Go.Proofs.Ytjjaaknjdmijbaa
