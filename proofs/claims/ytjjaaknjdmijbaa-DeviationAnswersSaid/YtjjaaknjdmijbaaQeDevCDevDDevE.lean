/- The pair of two valid curves, in package deviation. By the verifier's side. -/
import Derived.Test.YtjjaaknjdmijbaaQeDevA
import Derived.Test.YtjjaaknjdmijbaaQeDevB
import Derived.Test.YtjjaaknjdmijbaaQePwEToRowF
import Derived.Laws.EntriesVeiled
namespace Go.Proofs.Ytjjaaknjdmijbaa
open Go.RowKit
set_option linter.unusedSimpArgs false
set_option linter.unusedVariables false

section
variable {w w' : World} {b : Nat} {x0 x1 x2 y0 y1 y2 n0 : Value}
theorem P7.set012 (h : P7 w b x0 x1 x2 y0 y1 y2 n0) (z0 z1 z2 : Value) : P7 (((w.setCell ⟨b, 0, none⟩ z0).setCell ⟨b, 1, none⟩ z1).setCell ⟨b, 2, none⟩ z2) b z0 z1 z2 y0 y1 y2 n0 := by
  obtain ⟨⟨c0, c1, c2, f0, f1, f2⟩, c3, c4, c5, c6, f3, f4, f5, f6⟩ := h
  exact ⟨⟨by go_simp, by go_simp, by go_simp, by go_simp, by go_simp, by go_simp⟩, by go_simp, by go_simp, by go_simp, by go_simp, by go_simp, by go_simp, by go_simp, by go_simp⟩
theorem P7.set345 (h : P7 w b x0 x1 x2 y0 y1 y2 n0) (z0 z1 z2 : Value) : P7 (((w.setCell ⟨b, 3, none⟩ z0).setCell ⟨b, 4, none⟩ z1).setCell ⟨b, 5, none⟩ z2) b x0 x1 x2 z0 z1 z2 n0 := by
  obtain ⟨⟨c0, c1, c2, f0, f1, f2⟩, c3, c4, c5, c6, f3, f4, f5, f6⟩ := h
  exact ⟨⟨by go_simp, by go_simp, by go_simp, by go_simp, by go_simp, by go_simp⟩, by go_simp, by go_simp, by go_simp, by go_simp, by go_simp, by go_simp, by go_simp, by go_simp⟩
theorem P7.set6 (h : P7 w b x0 x1 x2 y0 y1 y2 n0) (z0 : Value) : P7 (w.setCell ⟨b, 6, none⟩ z0) b x0 x1 x2 y0 y1 y2 z0 := by
  obtain ⟨⟨c0, c1, c2, f0, f1, f2⟩, c3, c4, c5, c6, f3, f4, f5, f6⟩ := h
  exact ⟨⟨by go_simp, by go_simp, by go_simp, by go_simp, by go_simp, by go_simp⟩, by go_simp, by go_simp, by go_simp, by go_simp, by go_simp, by go_simp, by go_simp, by go_simp⟩
theorem below_v7 {B : Nat} {u w : World} {b : Nat} (h : Below B u w) (hb : B ≤ b) (y0 y1 y2 y3 y4 y5 y6 : Value) : Below B u (((((((w.setCell ⟨b, 0, none⟩ y0).setCell ⟨b, 1, none⟩ y1).setCell ⟨b, 2, none⟩ y2).setCell ⟨b, 3, none⟩ y3).setCell ⟨b, 4, none⟩ y4).setCell ⟨b, 5, none⟩ y5).setCell ⟨b, 6, none⟩ y6) :=
  ((((below_set3 h hb y0 y1 y2).setCell (p := ⟨b, 3, none⟩) hb _).setCell (p := ⟨b, 4, none⟩) hb _).setCell (p := ⟨b, 5, none⟩) hb _).setCell (p := ⟨b, 6, none⟩) hb _
theorem below_v3 {B : Nat} {u w : World} {b i j k : Nat} (h : Below B u w) (hb : B ≤ b) (y0 y1 y2 : Value) : Below B u (((w.setCell ⟨b, i, none⟩ y0).setCell ⟨b, j, none⟩ y1).setCell ⟨b, k, none⟩ y2) :=
  ((h.setCell (p := ⟨b, i, none⟩) hb _).setCell (p := ⟨b, j, none⟩) hb _).setCell (p := ⟨b, k, none⟩) hb _
theorem norm_self2 {zs zs' : List Int} {p p' : Nat} {inc inc' : Int} (h : NormC zs p inc zs' p' inc') (g : Good zs p inc) : NormC zs' p' inc' zs' p' inc' := by
  obtain ⟨s, _, hn⟩ := norm_self (h.eform g)
  exact hn
end

/-- While the pair is made: the boxes of both curves, of the result, and (in the block pb) of the pair; the pair's curves lie behind it. -/
structure SF7 (w : World) (a1 : Option Addr) (n1 cap1 p1 : Nat) (i1 : Int) (z1 : List Int) (a2 : Option Addr) (n2 cap2 p2 : Nat) (i2 : Int) (z2 : List Int) (u : World) : Prop where
  c1 : Cur3 u w.heap.size (.slice a1 n1 cap1) (.int .i64 p1) (.int .i64 i1)
  c2 : Cur3 u (w.heap.size + 1) (.slice a2 n2 cap2) (.int .i64 p2) (.int .i64 i2)
  res : P7 u (w.heap.size + 2) (.slice none 0 0) (.int .i64 0) (.int .i64 0) (.slice none 0 0) (.int .i64 0) (.int .i64 0) (.int .i64 0)
  r1 : RowZ u a1 n1 cap1 z1
  r2 : RowZ u a2 n2 cap2 z2
  f1 : ∀ x, a1 = some x → 1 ≤ n1 → x.block < w.heap.size
  f2 : ∀ x, a2 = some x → 1 ≤ n2 → x.block < w.heap.size
  below : Below w.heap.size w u
section
variable {w u v : World} {a1 : Option Addr} {n1 cap1 p1 : Nat} {i1 : Int} {z1 : List Int} {a2 : Option Addr} {n2 cap2 p2 : Nat} {i2 : Int} {z2 : List Int}
theorem SF7.call (h : SF7 w a1 n1 cap1 p1 i1 z1 a2 n2 cap2 p2 i2 z2 u) (hb : Below u.heap.size u v) : SF7 w a1 n1 cap1 p1 i1 z1 a2 n2 cap2 p2 i2 z2 v :=
  ⟨h.c1.below hb, h.c2.below hb, h.res.below hb, h.r1.under hb, h.r2.under hb, h.f1, h.f2, h.below.trans (hb.mono h.below.size)⟩
theorem SF7.other (h : SF7 w a1 n1 cap1 p1 i1 z1 a2 n2 cap2 p2 i2 z2 u) {b : Nat} (hb : w.heap.size + 2 < b) (i : Nat) (v : Value) : SF7 w a1 n1 cap1 p1 i1 z1 a2 n2 cap2 p2 i2 z2 (u.setCell ⟨b, i, none⟩ v) :=
  ⟨h.c1.other (by omega) _ _, h.c2.other (by omega) _ _, h.res.other (by omega) _ _, h.r1.store (fun x h1 h2 => by have := h.f1 x h1 h2; omega) _ _, h.r2.store (fun x h1 h2 => by have := h.f2 x h1 h2; omega) _ _, h.f1, h.f2, h.below.setCell (p := ⟨b, i, none⟩) (by show w.heap.size ≤ b; omega) v⟩
theorem sf7_start (h1 : RowZ w a1 n1 cap1 z1) (h2 : RowZ w a2 n2 cap2 z2) {W : World} (hW : ((w.alloc (.cells #[.slice a1 n1 cap1, .int .i64 p1, .int .i64 i1] 24)).alloc (.cells #[.slice a2 n2 cap2, .int .i64 p2, .int .i64 i2] 24)).alloc (.cells #[.slice none 0 0, .int .i64 0, .int .i64 0, .slice none 0 0, .int .i64 0, .int .i64 0, .int .i64 0] 130) = W) : SF7 w a1 n1 cap1 p1 i1 z1 a2 n2 cap2 p2 i2 z2 W ∧ W.heap.size = w.heap.size + 3 := by
  subst hW
  have hB : Below w.heap.size w (((w.alloc (.cells #[.slice a1 n1 cap1, .int .i64 p1, .int .i64 i1] 24)).alloc (.cells #[.slice a2 n2 cap2, .int .i64 p2, .int .i64 i2] 24)).alloc (.cells #[.slice none 0 0, .int .i64 0, .int .i64 0, .slice none 0 0, .int .i64 0, .int .i64 0, .int .i64 0] 130)) := (((Below.refl _ _).alloc (Nat.le_refl _) _).alloc (by simp) _).alloc (by simp; omega) _
  refine ⟨⟨((Cur3.new w _ _ _ _).alloc _).alloc _, (Cur3.new2 w _ _ _ _ _).alloc _, ?_, h1.under hB, h2.under hB, fun x k1 k2 => h1.far x k1 k2, fun x k1 k2 => h2.far x k1 k2, hB⟩, by simp⟩
  have := p7_new ((w.alloc (.cells #[.slice a1 n1 cap1, .int .i64 p1, .int .i64 i1] 24)).alloc (.cells #[.slice a2 n2 cap2, .int .i64 p2, .int .i64 i2] 24)) (.slice none 0 0) (.int .i64 0) (.int .i64 0) (.slice none 0 0) (.int .i64 0) (.int .i64 0) (.int .i64 0) 130
  simpa using this
end

/-- While the pair in the block pb is filled: what it holds, and the rows of its curves, which lie behind it. -/
structure SN7 (w : World) (pb : Nat) (a1 : Option Addr) (n1 cap1 p1 : Nat) (i1 : Int) (z1 : List Int) (a2 : Option Addr) (n2 cap2 p2 : Nat) (i2 : Int) (z2 : List Int) (n0 : Value) (u : World) : Prop where
  res : P7 u (w.heap.size + 2) (.slice none 0 0) (.int .i64 0) (.int .i64 0) (.slice none 0 0) (.int .i64 0) (.int .i64 0) (.int .i64 0)
  pr : P7 u pb (.slice a1 n1 cap1) (.int .i64 p1) (.int .i64 i1) (.slice a2 n2 cap2) (.int .i64 p2) (.int .i64 i2) n0
  r1 : RowZ u a1 n1 cap1 z1
  r2 : RowZ u a2 n2 cap2 z2
  f1 : ∀ x, a1 = some x → pb < x.block
  f2 : ∀ x, a2 = some x → pb < x.block
  hp : w.heap.size + 2 < pb
  below : Below w.heap.size w u
section
variable {w u v : World} {pb : Nat} {a1 : Option Addr} {n1 cap1 p1 : Nat} {i1 : Int} {z1 : List Int} {a2 : Option Addr} {n2 cap2 p2 : Nat} {i2 : Int} {z2 : List Int} {n0 : Value}
theorem SN7.call (h : SN7 w pb a1 n1 cap1 p1 i1 z1 a2 n2 cap2 p2 i2 z2 n0 u) (hb : Below u.heap.size u v) : SN7 w pb a1 n1 cap1 p1 i1 z1 a2 n2 cap2 p2 i2 z2 n0 v :=
  ⟨h.res.below hb, h.pr.below hb, h.r1.under hb, h.r2.under hb, h.f1, h.f2, h.hp, h.below.trans (hb.mono h.below.size)⟩
theorem SN7.put6 (h : SN7 w pb a1 n1 cap1 p1 i1 z1 a2 n2 cap2 p2 i2 z2 n0 u) (x : Value) : SN7 w pb a1 n1 cap1 p1 i1 z1 a2 n2 cap2 p2 i2 z2 x (u.setCell ⟨pb, 6, none⟩ x) := by
  have hp := h.hp
  exact ⟨h.res.other (by omega) _ _, h.pr.set6 x, h.r1.store (fun y hy _ => by have := h.f1 y hy; omega) _ _, h.r2.store (fun y hy _ => by have := h.f2 y hy; omega) _ _, h.f1, h.f2, hp, h.below.setCell (p := ⟨pb, 6, none⟩) (by show w.heap.size ≤ pb; omega) x⟩
end

/-- The pair of two curves: their normal forms, and their common period. -/
def GivesPair7 (y1 : List Int) (q1 : Nat) (j1 : Int) (y2 : List Int) (q2 : Nat) (j2 : Int) (L : Nat) (w : World) (e : Ending) (w' : World) : Prop :=
  ∃ a1 n1 cap1 a2 n2 cap2, e = .returned (.tuple #[.agg #[.slice a1 n1 cap1, .int .i64 q1, .int .i64 j1, .slice a2 n2 cap2, .int .i64 q2, .int .i64 j2, .int .i64 L], .int .i64 0]) ∧ Below w.heap.size w w' ∧ RowZ w' a1 n1 cap1 y1 ∧ RowZ w' a2 n2 cap2 y2

set_option maxRecDepth 100000 in
set_option maxHeartbeats 6400000 in
theorem vpaired_ok (a1 : Option Addr) (n1 cap1 : Nat) (z1 : List Int) (p1 : Nat) (i1 : Int) (g1 : Good z1 p1 i1) (a2 : Option Addr) (n2 cap2 : Nat) (z2 : List Int) (p2 : Nat) (i2 : Int) (g2 : Good z2 p2 i2)
    {y1 y2 : List Int} {q1 q2 : Nat} {j1 j2 : Int} (hn1 : NormC z1 p1 i1 y1 q1 j1) (hn2 : NormC z2 p2 i2 y2 q2 j2) (L : Nat) (hL : q1 / Nat.gcd q1 q2 * q2 = L) (hL2 : L ≤ 120) (w : World) (h1 : RowZ w a1 n1 cap1 z1) (h2 : RowZ w a2 n2 cap2 z2) :
    Calls Try.prog 120 #[curV a1 n1 cap1 p1 i1, curV a2 n2 cap2 p2 i2] w (GivesPair7 y1 q1 j1 y2 q2 j2 L w) := by
  obtain ⟨W, hW⟩ : ∃ W, ((w.alloc (.cells #[.slice a1 n1 cap1, .int .i64 p1, .int .i64 i1] 24)).alloc (.cells #[.slice a2 n2 cap2, .int .i64 p2, .int .i64 i2] 24)).alloc (.cells #[.slice none 0 0, .int .i64 0, .int .i64 0, .slice none 0 0, .int .i64 0, .int .i64 0, .int .i64 0] 130) = W := ⟨_, rfl⟩
  obtain ⟨t0, hsz⟩ := sf7_start (p1 := p1) (i1 := i1) (p2 := p2) (i2 := i2) h1 h2 hW
  have T0 := Lib.hid t0
  have HSZ := Lib.hid hsz
  have HW := Lib.hid hW
  have V1 := Lib.hid ((okC_iff z1 p1 i1).2 g1)
  have V2 := Lib.hid ((okC_iff z2 p2 i2).2 g2)
  have G1 := Lib.hid g1
  have G2 := Lib.hid g2
  have HN := Lib.hid (And.intro hn1 hn2)
  have HL := Lib.hid hL
  have e1 : In64 (p1 : Int) := ⟨by omega, by have := g1.p2; omega⟩
  have e2 : In64 (p2 : Int) := ⟨by omega, by have := g2.p2; omega⟩
  have e3 : In64 i1 := ⟨by have := g1.i0; omega, by have := g1.i1; omega⟩
  have e4 : In64 i2 := ⟨by have := g2.i0; omega, by have := g2.i1; omega⟩
  have HI := Lib.hid (And.intro (And.intro e1 e3) (And.intro e2 e4))
  clear t0 hsz hW g1 g2 hn1 hn2 hL h1 h2 e1 e2 e3 e4
  go_enter Try.func120, Try.ntmps120
  go_wp2_with fail
  try rw [HW.out]
  refine (valid_any a1 n1 cap1 z1 p1 i1 HI.out.1.1 HI.out.1.2 true V1.out _ T0.out.r1).mono ?_
  rintro e w1 ⟨rfl, hb⟩
  have T1 := Lib.hid (T0.out.call hb)
  have HS1 := Lib.hid (Nat.le_trans (Nat.le_of_eq HSZ.out.symm) hb.size)
  clear hb
  obtain ⟨c0, c1, c2, f0, f1, f2⟩ := T1.out.c2
  go_wp2_with fail
  refine (valid_any a2 n2 cap2 z2 p2 i2 HI.out.2.1 HI.out.2.2 true V2.out _ T1.out.r2).mono ?_
  rintro e w2 ⟨rfl, hb⟩
  have T2 := Lib.hid (T1.out.call hb)
  have HS2 := Lib.hid (Nat.le_trans HS1.out hb.size)
  clear hb c0 c1 c2 f0 f1 f2
  obtain ⟨W5, hW5⟩ : ∃ W', w2.alloc (.cells #[.slice none 0 0, .int .i64 0, .int .i64 0, .slice none 0 0, .int .i64 0, .int .i64 0, .int .i64 0] 130) = W' := ⟨_, rfl⟩
  have hb5 : Below w2.heap.size w2 W5 := by rw [← hW5]; exact (Below.refl _ _).alloc (Nat.le_refl _) _
  have T5 := Lib.hid (T2.out.call hb5)
  have PB := Lib.hid (show P7 W5 w2.heap.size (.slice none 0 0) (.int .i64 0) (.int .i64 0) (.slice none 0 0) (.int .i64 0) (.int .i64 0) (.int .i64 0) by rw [← hW5]; exact p7_new w2 (.slice none 0 0) (.int .i64 0) (.int .i64 0) (.slice none 0 0) (.int .i64 0) (.int .i64 0) (.int .i64 0) _)
  have HW5 := Lib.hid hW5
  have HS5 := Lib.hid (show w.heap.size + 2 < w2.heap.size by have := HS2.out; omega)
  clear hb5 hW5
  go_upto_region 4 with fail
  try rw [HW5.out]
  obtain ⟨c0, c1, c2, f0, f1, f2⟩ := T5.out.c1
  go_wp2_with fail
  refine (normal_ok a1 n1 cap1 z1 p1 i1 G1.out _ T5.out.r1).mono ?_
  rintro e w3 ⟨a3, n3, cap3, x1, r1, k1, rfl, hb, hr, hn, hx⟩
  obtain ⟨rfl, rfl, rfl⟩ := hn.canon G1.out G1.out HN.out.1 (fun _ => rfl)
  obtain ⟨W6, hW6⟩ : ∃ W', (((w3.setCell ⟨w2.heap.size, 0, none⟩ (.slice a3 n3 cap3)).setCell ⟨w2.heap.size, 1, none⟩ (.int .i64 r1)).setCell ⟨w2.heap.size, 2, none⟩ (.int .i64 k1)) = W' := ⟨_, rfl⟩
  have T6 := Lib.hid (show SF7 w a1 n1 cap1 p1 i1 z1 a2 n2 cap2 p2 i2 z2 W6 by rw [← hW6]; have h9 := HS5.out; exact (((T5.out.call hb).other h9 _ _).other h9 _ _).other h9 _ _)
  have PB6 := Lib.hid (show P7 W6 w2.heap.size (.slice a3 n3 cap3) (.int .i64 r1) (.int .i64 k1) (.slice none 0 0) (.int .i64 0) (.int .i64 0) (.int .i64 0) by rw [← hW6]; exact (PB.out.below hb).set012 _ _ _)
  have hlt3 : w2.heap.size < w3.heap.size := Nat.lt_of_lt_of_le PB.out.lt hb.size
  have X3 := Lib.hid (show ∀ x, a3 = some x → w2.heap.size < x.block from fun x h => by have := hx x h; have := PB.out.lt; omega)
  have RX3 := Lib.hid (show RowZ W6 a3 n3 cap3 x1 by
    rw [← hW6]
    have q : ∀ x, a3 = some x → 1 ≤ n3 → x.block ≠ w2.heap.size := fun x h _ => by have := X3.out x h; omega
    exact ((hr.store q _ _).store q _ _).store q _ _)
  have HW6 := Lib.hid hW6
  obtain ⟨⟨c0, c1, c2, f0, f1, f2⟩, c3, c4, c5, c6, f3, f4, f5, f6⟩ := PB.out.below hb
  clear hb hr hn hx hW6 hlt3
  go_upto_region 5 with fail
  try rw [HW6.out]
  clear c0 c1 c2 f0 f1 f2 c3 c4 c5 c6 f3 f4 f5 f6
  obtain ⟨c0, c1, c2, f0, f1, f2⟩ := T6.out.c2
  go_wp2_with fail
  refine (normal_ok a2 n2 cap2 z2 p2 i2 G2.out _ T6.out.r2).mono ?_
  rintro e w4 ⟨a4, n4, cap4, x2, r2, k2, rfl, hb, hr, hn, hx⟩
  obtain ⟨rfl, rfl, rfl⟩ := hn.canon G2.out G2.out HN.out.2 (fun _ => rfl)
  obtain ⟨W7, hW7⟩ : ∃ W', (((w4.setCell ⟨w2.heap.size, 3, none⟩ (.slice a4 n4 cap4)).setCell ⟨w2.heap.size, 4, none⟩ (.int .i64 r2)).setCell ⟨w2.heap.size, 5, none⟩ (.int .i64 k2)) = W' := ⟨_, rfl⟩
  have N7 := Lib.hid (show SN7 w w2.heap.size a3 n3 cap3 r1 k1 x1 a4 n4 cap4 r2 k2 x2 (.int .i64 0) W7 by
    have h9 := HS5.out
    have hle : w2.heap.size < W6.heap.size := PB6.out.lt
    have X4 : ∀ x, a4 = some x → w2.heap.size < x.block := fun x h => by have := hx x h; omega
    have q3 : ∀ x, a3 = some x → 1 ≤ n3 → x.block ≠ w2.heap.size := fun x h _ => by have := X3.out x h; omega
    have q4 : ∀ x, a4 = some x → 1 ≤ n4 → x.block ≠ w2.heap.size := fun x h _ => by have := X4 x h; omega
    rw [← hW7]
    exact ⟨((((T6.out.call hb).res.other (by omega) _ _).other (by omega) _ _).other (by omega) _ _), (PB6.out.below hb).set345 _ _ _, ((((RX3.out.under hb).store q3 _ _).store q3 _ _).store q3 _ _), (((hr.store q4 _ _).store q4 _ _).store q4 _ _), X3.out, X4, h9, below_v3 (T6.out.call hb).below (by omega) _ _ _⟩)
  have HW7 := Lib.hid hW7
  clear c0 c1 c2 f0 f1 f2
  obtain ⟨⟨c0, c1, c2, f0, f1, f2⟩, c3, c4, c5, c6, f3, f4, f5, f6⟩ := PB6.out.below hb
  clear hb hr hn hx hW7
  have GX := Lib.hid (And.intro (HN.out.1.good G1.out) (HN.out.2.good G2.out))
  have bp1 := GX.out.1.p1
  have bp2 := GX.out.1.p2
  have bp3 := GX.out.2.p1
  have bp4 := GX.out.2.p2
  go_upto_region 6 with fail
  try rw [HW7.out]
  clear c0 c1 c2 f0 f1 f2 c3 c4 c5 c6 f3 f4 f5 f6
  obtain ⟨⟨c0, c1, c2, f0, f1, f2⟩, c3, c4, c5, c6, f3, f4, f5, f6⟩ := N7.out.pr
  go_wp2_with fail
  refine (common_any r1 r2 L HL.out bp1 (by omega) bp3 (by omega) _).mono ?_
  rintro e w5 ⟨rfl, hd⟩
  have N8 := Lib.hid ((N7.out.call (below_dr (Below.refl _ _) hd)).put6 (.int .i64 L))
  clear c0 c1 c2 f0 f1 f2 c3 c4 c5 c6 f3 f4 f5 f6
  obtain ⟨⟨c0, c1, c2, f0, f1, f2⟩, c3, c4, c5, c6, f3, f4, f5, f6⟩ := N7.out.pr.below (below_dr (Below.refl _ _) hd)
  clear hd
  obtain ⟨W8, hW8⟩ : ∃ W', w5.setCell ⟨w2.heap.size, 6, none⟩ (.int .i64 L) = W' := ⟨_, rfl⟩
  rw [hW8] at N8
  have HW8 := Lib.hid hW8
  clear hW8
  have hLi : ¬ (120 : Int) < (L : Int) := by omega
  go_upto_region 7 with fail
  try rw [HW8.out]
  clear c0 c1 c2 f0 f1 f2 c3 c4 c5 c6 f3 f4 f5 f6
  obtain ⟨⟨c0, c1, c2, f0, f1, f2⟩, c3, c4, c5, c6, f3, f4, f5, f6⟩ := N8.out.pr
  go_upto_region 9 with fail
  obtain ⟨⟨d0, d1, d2, e0, e1, e2⟩, d3, d4, d5, d6, e3, e4, e5, e6⟩ := N8.out.res
  have HP := Lib.hid (show GivesPair7 x1 r1 k1 x2 r2 k2 L w (.returned (.tuple #[.agg #[.slice a3 n3 cap3, .int .i64 r1, .int .i64 k1, .slice a4 n4 cap4, .int .i64 r2, .int .i64 k2, .int .i64 L], .int .i64 0])) ((((((((W8.setCell ⟨w.heap.size + 2, 0, none⟩ (.slice a3 n3 cap3)).setCell ⟨w.heap.size + 2, 1, none⟩ (.int .i64 r1)).setCell ⟨w.heap.size + 2, 2, none⟩ (.int .i64 k1)).setCell ⟨w.heap.size + 2, 3, none⟩ (.slice a4 n4 cap4)).setCell ⟨w.heap.size + 2, 4, none⟩ (.int .i64 r2)).setCell ⟨w.heap.size + 2, 5, none⟩ (.int .i64 k2)).setCell ⟨w.heap.size + 2, 6, none⟩ (.int .i64 L))) by
    have hp := N8.out.hp
    have q3 : ∀ x, a3 = some x → 1 ≤ n3 → x.block ≠ w.heap.size + 2 := fun x h _ => by have := N8.out.f1 x h; omega
    have q4 : ∀ x, a4 = some x → 1 ≤ n4 → x.block ≠ w.heap.size + 2 := fun x h _ => by have := N8.out.f2 x h; omega
    exact ⟨a3, n3, cap3, a4, n4, cap4, rfl, below_v7 N8.out.below (by omega) _ _ _ _ _ _ _, (((((((N8.out.r1.store q3 _ _).store q3 _ _).store q3 _ _).store q3 _ _).store q3 _ _).store q3 _ _).store q3 _ _), (((((((N8.out.r2.store q4 _ _).store q4 _ _).store q4 _ _).store q4 _ _).store q4 _ _).store q4 _ _).store q4 _ _)⟩)
  go_wp2_with fail
  exact bodyPost_ret (v := .tuple #[.agg #[.slice a3 n3 cap3, .int .i64 r1, .int .i64 k1, .slice a4 n4 cap4, .int .i64 r2, .int .i64 k2, .int .i64 L], .int .i64 0]) (by simp [results, Try.results120, go_sem, d0, d1, d2, d3, d4, d5, d6]) rfl HP.out
end Go.Proofs.Ytjjaaknjdmijbaa

namespace Go.Proofs.Ytjjaaknjdmijbaa
open Go.RowKit
set_option linter.unusedSimpArgs false
set_option linter.unusedVariables false

/-- What the closure of the delay sees: the pair's box, the closure of the first curve in a box. -/
structure K1 (w : World) (PB AB B : Nat) (a1 : Option Addr) (n1 cap1 p1 : Nat) (i1 : Int) (z1 : List Int) (a2 : Option Addr) (n2 cap2 p2 : Nat) (i2 : Int) (z2 : List Int) (L : Nat) (u : World) : Prop where
  pr : P7 u PB (.slice a1 n1 cap1) (.int .i64 p1) (.int .i64 i1) (.slice a2 n2 cap2) (.int .i64 p2) (.int .i64 i2) (.int .i64 L)
  fn : u.cell? ⟨AB, 0, none⟩ = some (closPV B)
  cl : ClosP u B a1 n1 cap1 z1 p1 i1
  r2 : RowZ u a2 n2 cap2 z2
  below : Below w.heap.size w u
/-- What the closures of the backlog and the peak see. -/
structure K2 (w : World) (AB BB B C : Nat) (a1 : Option Addr) (n1 cap1 p1 : Nat) (i1 : Int) (z1 : List Int) (a2 : Option Addr) (n2 cap2 p2 : Nat) (i2 : Int) (z2 : List Int) (L : Nat) (u : World) : Prop where
  fn : u.cell? ⟨AB, 0, none⟩ = some (closPV B)
  gn : u.cell? ⟨BB, 0, none⟩ = some (closPV C)
  cl : ClosG 181 #[.pointer (some ⟨B + 1, 0, none⟩), .pointer (some ⟨B, 0, none⟩)] 4194304 (atC z1 p1 i1) u
  dl : ClosG 181 #[.pointer (some ⟨C + 1, 0, none⟩), .pointer (some ⟨C, 0, none⟩)] 4194304 (atC z2 p2 i2) u
  below : Below w.heap.size w u
theorem closG_at {B T : Nat} {f : Nat → Int} {u : World} (h : ClosG 181 #[.pointer (some ⟨B + 1, 0, none⟩), .pointer (some ⟨B, 0, none⟩)] T f u) (t : Nat) (ht : t < T) : Calls Try.prog 181 #[.int .i64 (t : Int), .pointer (some ⟨B + 1, 0, none⟩), .pointer (some ⟨B, 0, none⟩)] u (Drew (.int .i64 (f t)) u) := h _ t _ u rfl ht rfl (Below.refl _ _)
section
variable {w u v : World} {PB AB BB B C : Nat} {a1 : Option Addr} {n1 cap1 p1 : Nat} {i1 : Int} {z1 : List Int} {a2 : Option Addr} {n2 cap2 p2 : Nat} {i2 : Int} {z2 : List Int} {L : Nat}
theorem K1.call (h : K1 w PB AB B a1 n1 cap1 p1 i1 z1 a2 n2 cap2 p2 i2 z2 L u) (hb : Below u.heap.size u v) : K1 w PB AB B a1 n1 cap1 p1 i1 z1 a2 n2 cap2 p2 i2 z2 L v :=
  ⟨h.pr.below hb, (hb.cell (lt_of_cell h.fn)).trans h.fn, h.cl.under hb, h.r2.under hb, h.below.trans (hb.mono h.below.size)⟩
abbrev K1S (w : World) (PB AB B : Nat) (a1 : Option Addr) (n1 cap1 p1 : Nat) (i1 : Int) (z1 : List Int) (a2 : Option Addr) (n2 cap2 p2 : Nat) (i2 : Int) (z2 : List Int) (L : Nat) (u : World) : Prop :=
  u.cell? ⟨PB, 3, none⟩ = some (.slice a2 n2 cap2) ∧ u.cell? ⟨PB, 4, none⟩ = some (.int .i64 p2) ∧ u.cell? ⟨PB, 5, none⟩ = some (.int .i64 i2) ∧ u.cell? ⟨AB, 0, none⟩ = some (closPV B) ∧ Hid (K1 w PB AB B a1 n1 cap1 p1 i1 z1 a2 n2 cap2 p2 i2 z2 L u)
theorem k1s_of (h : K1 w PB AB B a1 n1 cap1 p1 i1 z1 a2 n2 cap2 p2 i2 z2 L u) : K1S w PB AB B a1 n1 cap1 p1 i1 z1 a2 n2 cap2 p2 i2 z2 L u := ⟨h.pr.c3, h.pr.c4, h.pr.c5, h.fn, h⟩
theorem K2.call (h : K2 w AB BB B C a1 n1 cap1 p1 i1 z1 a2 n2 cap2 p2 i2 z2 L u) (hb : Below u.heap.size u v) : K2 w AB BB B C a1 n1 cap1 p1 i1 z1 a2 n2 cap2 p2 i2 z2 L v :=
  ⟨(hb.cell (lt_of_cell h.fn)).trans h.fn, (hb.cell (lt_of_cell h.gn)).trans h.gn, h.cl.above hb, h.dl.above hb, h.below.trans (hb.mono h.below.size)⟩
abbrev K2S (w : World) (AB BB B C : Nat) (a1 : Option Addr) (n1 cap1 p1 : Nat) (i1 : Int) (z1 : List Int) (a2 : Option Addr) (n2 cap2 p2 : Nat) (i2 : Int) (z2 : List Int) (L : Nat) (u : World) : Prop :=
  u.cell? ⟨AB, 0, none⟩ = some (closPV B) ∧ u.cell? ⟨BB, 0, none⟩ = some (closPV C) ∧ Hid (K2 w AB BB B C a1 n1 cap1 p1 i1 z1 a2 n2 cap2 p2 i2 z2 L u)
theorem k2s_of (h : K2 w AB BB B C a1 n1 cap1 p1 i1 z1 a2 n2 cap2 p2 i2 z2 L u) : K2S w AB BB B C a1 n1 cap1 p1 i1 z1 a2 n2 cap2 p2 i2 z2 L u := ⟨h.fn, h.gn, h⟩
end

set_option maxRecDepth 100000 in
set_option maxHeartbeats 3200000 in
theorem delay1_any (PB AB B : Nat) (a1 : Option Addr) (n1 cap1 p1 : Nat) (i1 : Int) (z1 : List Int) (a2 : Option Addr) (n2 cap2 p2 : Nat) (i2 : Int) (z2 : List Int) (L : Nat) (g1 : Good z1 p1 i1) (g2 : Good z2 p2 i2) (t : Nat) (ht : t ≤ 1000) (w : World) (h : K1 w PB AB B a1 n1 cap1 p1 i1 z1 a2 n2 cap2 p2 i2 z2 L w) :
    Calls Try.prog 123 #[.int .i64 (t : Int), .pointer (some ⟨PB, 0, none⟩), .pointer (some ⟨AB, 0, none⟩)] w fun e w' => e = .returned (.int .i64 (waitI (eC z1 p1 i1) (eC z2 p2 i2) t)) ∧ Below w.heap.size w w' := by
  have HK0 := Lib.hid (h.call (Below.refl _ _).drew)
  obtain ⟨v, hv⟩ : ∃ v, atC z1 p1 i1 t = v := ⟨_, rfl⟩
  have HV := Lib.hid (show enc (eC z1 p1 i1 t) = v by rw [enc_eC]; exact hv)
  have HA := Lib.hid (asks_at g1 ht)
  have G2 := Lib.hid g2
  have HV2 := Lib.hid hv
  obtain ⟨c0, c1, c2, c3, _⟩ := k1s_of h
  have EV := Lib.hid (show ∀ (args : Array Value) (w : World), (callFunc 181 args).run Try.prog w = .ok (.enter 181 args) w from enters_of Try.func181 (by kernel_rfl) rfl)
  have ev := EV.out
  clear h g1 g2 hv
  go_enter Try.func123, Try.ntmps123
  go_upto_region 1 with fail
  clear c0 c1 c2 c3
  refine wp_region_keeps (fun u => K1S w PB AB B a1 n1 cap1 p1 i1 z1 a2 n2 cap2 p2 i2 z2 L u) 10 1 (by kernel_rfl) (by kernel_rfl) (k1s_of HK0.out) (fun hHeld0 => ?_)
  refine wpAnyK_take (i := 0) (v := ?_) rfl (by kernel_rfl) (fun _ _ _ h => h) (Or.inl ⟨by rfl, ?_⟩) (by assumption) ?_
  rotate_left
  · (intro w hSw; (try dsimp only at hSw); go_simp; try with_reducible rfl)
  try simp only [Act.put, List.getElem_toArray, List.getElem_cons_zero, List.getElem_cons_succ, List.setIfInBounds_toArray, List.set_cons_zero, List.set_cons_succ]
  refine wpAnyK_take (i := 1) (v := ?_) rfl (by kernel_rfl) (fun _ _ _ h => h) (Or.inl ⟨by rfl, ?_⟩) (by assumption) ?_
  rotate_left
  · (intro w hSw; (try dsimp only at hSw); go_simp; try with_reducible rfl)
  try simp only [Act.put, List.getElem_toArray, List.getElem_cons_zero, List.getElem_cons_succ, List.setIfInBounds_toArray, List.set_cons_zero, List.set_cons_succ]
  refine wpAnyK_take (i := 2) (v := ?_) rfl (by kernel_rfl) (fun _ _ _ h => h) (Or.inl ⟨by rfl, ?_⟩) (by assumption) ?_
  rotate_left
  · (intro w hSw; (try dsimp only at hSw); go_simp; try with_reducible rfl)
  try simp only [Act.put, List.getElem_toArray, List.getElem_cons_zero, List.getElem_cons_succ, List.setIfInBounds_toArray, List.set_cons_zero, List.set_cons_succ]
  refine wpAnyK_take (i := 3) (v := ?_) rfl (by kernel_rfl) (fun _ _ _ h => h) (Or.inl ⟨by rfl, ?_⟩) (by assumption) ?_
  rotate_left
  · (intro w hSw; (try dsimp only at hSw); go_simp; try with_reducible rfl)
  try simp only [Act.put, List.getElem_toArray, List.getElem_cons_zero, List.getElem_cons_succ, List.setIfInBounds_toArray, List.set_cons_zero, List.set_cons_succ]
  refine wpAnyK_step (i := 4) rfl (by kernel_rfl) (fun K hK => ?_)
  go_simp
  with_reducible refine (atp_any B a1 n1 cap1 z1 p1 i1 t (by omega) _ HK0.out.cl).mono ?_
  rintro e u3 ⟨rfl, hd⟩
  have T1 := Lib.hid (HK0.out.call (below_dr (Below.refl _ _) hd))
  clear hd
  rw [HV2.out]
  refine hK.out _ _ (k1s_of T1.out) (fun hHeld1 => ?_)
  clear hK K hHeld0
  try simp only [Act.put, List.getElem_toArray, List.getElem_cons_zero, List.getElem_cons_succ, List.setIfInBounds_toArray, List.set_cons_zero, List.set_cons_succ]
  refine wpAnyK_step (i := 5) rfl (by kernel_rfl) (fun K hK => ?_)
  go_simp
  with_reducible refine (reach_any a2 n2 cap2 z2 p2 i2 G2.out (eC z1 p1 i1 t) HA.out v HV.out _ T1.out.r2).mono ?_
  rintro e u4 ⟨o, k, rfl, hb, hF, hk⟩
  have T2 := Lib.hid (T1.out.call hb)
  have HW := Lib.hid (waitI_eq (a := eC z1 p1 i1) hF)
  clear hb hF
  refine hK.out _ _ (k1s_of T2.out) (fun hHeld2 => ?_)
  clear hK K hHeld1
  try simp only [Act.put, List.getElem_toArray, List.getElem_cons_zero, List.getElem_cons_succ, List.setIfInBounds_toArray, List.set_cons_zero, List.set_cons_succ]
  refine wpAnyK_take (i := 6) (v := ?_) rfl (by kernel_rfl) (fun _ _ _ h => h) (Or.inl ⟨by rfl, ?_⟩) (by assumption) ?_
  rotate_left
  · (intro w hSw; (try dsimp only at hSw); go_simp; try with_reducible rfl)
  try simp only [Act.put, List.getElem_toArray, List.getElem_cons_zero, List.getElem_cons_succ, List.setIfInBounds_toArray, List.set_cons_zero, List.set_cons_succ]
  refine wpAnyK_take (i := 7) (v := ?_) rfl (by kernel_rfl) (fun _ _ _ h => h) (Or.inl ⟨by rfl, ?_⟩) (by assumption) ?_
  rotate_left
  · (intro w hSw; (try dsimp only at hSw); go_simp; try with_reducible rfl)
  try simp only [Act.put, List.getElem_toArray, List.getElem_cons_zero, List.getElem_cons_succ, List.setIfInBounds_toArray, List.set_cons_zero, List.set_cons_succ]
  refine wpAnyK_take (i := 8) (v := ?_) rfl (by kernel_rfl) (fun _ _ _ h => h) (Or.inl ⟨by rfl, ?_⟩) (by assumption) ?_
  rotate_left
  · (intro w hSw; (try dsimp only at hSw); go_simp; try with_reducible rfl)
  try simp only [Act.put, List.getElem_toArray, List.getElem_cons_zero, List.getElem_cons_succ, List.setIfInBounds_toArray, List.set_cons_zero, List.set_cons_succ]
  refine wpAnyK_take (i := 9) (v := ?_) rfl (by kernel_rfl) (fun _ _ _ h => h) (Or.inl ⟨by rfl, ?_⟩) (by assumption) ?_
  rotate_left
  · (intro w hSw; (try dsimp only at hSw); go_simp; try with_reducible rfl)
  try simp only [Act.put, List.getElem_toArray, List.getElem_cons_zero, List.getElem_cons_succ, List.setIfInBounds_toArray, List.set_cons_zero, List.set_cons_succ]
  refine wpAnyK_done (by kernel_rfl) ?_
  simp only [List.drop_succ_cons, List.drop_zero]
  clear hHeld2
  cases o with
  | false =>
    go_wp2_with fail
    go_ret
    exact ⟨by rw [HW.out]; rfl, T2.out.below⟩
  | true =>
    have hsub : IntKind.i64.wrap ((k : Int) - (t : Int)) = (k : Int) - (t : Int) := IntWalk.i64_in _ ⟨by omega, by omega⟩
    go_wp2_with fail
    go_ret
    exact ⟨by rw [HW.out]; rfl, T2.out.below⟩
set_option maxRecDepth 100000 in
set_option maxHeartbeats 3200000 in
theorem backlog1_any (AB BB B C : Nat) (a1 : Option Addr) (n1 cap1 p1 : Nat) (i1 : Int) (z1 : List Int) (a2 : Option Addr) (n2 cap2 p2 : Nat) (i2 : Int) (z2 : List Int) (L : Nat) (g1 : Good z1 p1 i1) (g2 : Good z2 p2 i2) (t : Nat) (ht : t ≤ 1000) (w : World) (h : K2 w AB BB B C a1 n1 cap1 p1 i1 z1 a2 n2 cap2 p2 i2 z2 L w) :
    Calls Try.prog 129 #[.int .i64 (t : Int), .pointer (some ⟨AB, 0, none⟩), .pointer (some ⟨BB, 0, none⟩)] w fun e w' => e = .returned (.int .i64 (gapI (fun t => eC z1 p1 i1 (t + 0)) (eC z2 p2 i2) t)) ∧ Below w.heap.size w w' := by
  have HK0 := Lib.hid (h.call (Below.refl _ _).drew)
  have HG := Lib.hid (show _ = gapI (fun t => eC z1 p1 i1 (t + 0)) (eC z2 p2 i2) t from gap_enc g1 g2 (s := t) (t := t) (by omega) (by omega))
  obtain ⟨x, hx⟩ : ∃ x, atC z1 p1 i1 t = x := ⟨_, rfl⟩
  obtain ⟨y, hy⟩ : ∃ y, atC z2 p2 i2 t = y := ⟨_, rfl⟩
  have HM := Lib.hid (show (x = infV ∨ (0 ≤ x ∧ x ≤ 1125899906842624)) ∧ (y = infV ∨ (0 ≤ y ∧ y ≤ 1125899906842624)) by rw [← hx, ← hy]; exact ⟨at_mid2 g1 (by omega), at_mid2 g2 (by omega)⟩)
  rw [hx, hy] at HG
  have HX := Lib.hid hx
  have HY := Lib.hid hy
  obtain ⟨c0, c1, _⟩ := k2s_of h
  have EV := Lib.hid (show ∀ (args : Array Value) (w : World), (callFunc 181 args).run Try.prog w = .ok (.enter 181 args) w from enters_of Try.func181 (by kernel_rfl) rfl)
  have ev := EV.out
  clear h g1 g2 hx hy
  go_enter Try.func129, Try.ntmps129
  go_upto_region 1 with fail
  clear c0 c1
  refine wp_region_keeps (fun u => K2S w AB BB B C a1 n1 cap1 p1 i1 z1 a2 n2 cap2 p2 i2 z2 L u) 7 1 (by kernel_rfl) (by kernel_rfl) (k2s_of HK0.out) (fun hHeld0 => ?_)
  refine wpAnyK_take (i := 0) (v := ?_) rfl (by kernel_rfl) (fun _ _ _ h => h) (Or.inl ⟨by rfl, ?_⟩) (by assumption) ?_
  rotate_left
  · (intro w hSw; (try dsimp only at hSw); go_simp; try with_reducible rfl)
  try simp only [Act.put, List.getElem_toArray, List.getElem_cons_zero, List.getElem_cons_succ, List.setIfInBounds_toArray, List.set_cons_zero, List.set_cons_succ]
  refine wpAnyK_take (i := 1) (v := ?_) rfl (by kernel_rfl) (fun _ _ _ h => h) (Or.inl ⟨by rfl, ?_⟩) (by assumption) ?_
  rotate_left
  · (intro w hSw; (try dsimp only at hSw); go_simp; try with_reducible rfl)
  try simp only [Act.put, List.getElem_toArray, List.getElem_cons_zero, List.getElem_cons_succ, List.setIfInBounds_toArray, List.set_cons_zero, List.set_cons_succ]
  refine wpAnyK_take (i := 3) (v := ?_) rfl (by kernel_rfl) (fun _ _ _ h => h) (Or.inl ⟨by rfl, ?_⟩) (by assumption) ?_
  rotate_left
  · (intro w hSw; (try dsimp only at hSw); go_simp; try with_reducible rfl)
  try simp only [Act.put, List.getElem_toArray, List.getElem_cons_zero, List.getElem_cons_succ, List.setIfInBounds_toArray, List.set_cons_zero, List.set_cons_succ]
  refine wpAnyK_take (i := 4) (v := ?_) rfl (by kernel_rfl) (fun _ _ _ h => h) (Or.inl ⟨by rfl, ?_⟩) (by assumption) ?_
  rotate_left
  · (intro w hSw; (try dsimp only at hSw); go_simp; try with_reducible rfl)
  try simp only [Act.put, List.getElem_toArray, List.getElem_cons_zero, List.getElem_cons_succ, List.setIfInBounds_toArray, List.set_cons_zero, List.set_cons_succ]
  refine wpAnyK_step (i := 2) rfl (by kernel_rfl) (fun K hK => ?_)
  go_simp
  with_reducible refine (closG_at HK0.out.cl t (by omega)).mono ?_
  rintro e u3 ⟨rfl, hd⟩
  have T1 := Lib.hid (HK0.out.call (below_dr (Below.refl _ _) hd))
  clear hd
  rw [HX.out]
  refine hK.out _ _ (k2s_of T1.out) (fun hHeld1 => ?_)
  clear hK K hHeld0
  try simp only [Act.put, List.getElem_toArray, List.getElem_cons_zero, List.getElem_cons_succ, List.setIfInBounds_toArray, List.set_cons_zero, List.set_cons_succ]
  refine wpAnyK_step (i := 5) rfl (by kernel_rfl) (fun K hK => ?_)
  go_simp
  with_reducible refine (closG_at T1.out.dl t (by omega)).mono ?_
  rintro e u4 ⟨rfl, hd⟩
  have T2 := Lib.hid (T1.out.call (below_dr (Below.refl _ _) hd))
  clear hd
  rw [HY.out]
  refine hK.out _ _ (k2s_of T2.out) (fun hHeld2 => ?_)
  clear hK K hHeld1
  try simp only [Act.put, List.getElem_toArray, List.getElem_cons_zero, List.getElem_cons_succ, List.setIfInBounds_toArray, List.set_cons_zero, List.set_cons_succ]
  refine wpAnyK_step (i := 6) rfl (by kernel_rfl) (fun K hK => ?_)
  go_simp
  with_reducible refine (ahead_any x y HM.out.1 HM.out.2 _).mono ?_
  rintro e u5 ⟨rfl, rfl⟩
  rw [HG.out]
  refine hK.out _ _ (k2s_of T2.out) (fun hHeld3 => ?_)
  clear hK K hHeld2
  try simp only [Act.put, List.getElem_toArray, List.getElem_cons_zero, List.getElem_cons_succ, List.setIfInBounds_toArray, List.set_cons_zero, List.set_cons_succ]
  refine wpAnyK_done (by kernel_rfl) ?_
  simp only [List.drop_succ_cons, List.drop_zero]
  clear hHeld3
  go_wp2_with fail
  go_ret
  exact ⟨rfl, T2.out.below⟩
set_option maxRecDepth 100000 in
set_option maxHeartbeats 3200000 in
theorem peak1_any (AB BB B C : Nat) (a1 : Option Addr) (n1 cap1 p1 : Nat) (i1 : Int) (z1 : List Int) (a2 : Option Addr) (n2 cap2 p2 : Nat) (i2 : Int) (z2 : List Int) (L : Nat) (g1 : Good z1 p1 i1) (g2 : Good z2 p2 i2) (t : Nat) (ht : t ≤ 1000) (w : World) (h : K2 w AB BB B C a1 n1 cap1 p1 i1 z1 a2 n2 cap2 p2 i2 z2 L w) :
    Calls Try.prog 132 #[.int .i64 (t : Int), .pointer (some ⟨AB, 0, none⟩), .pointer (some ⟨BB, 0, none⟩)] w fun e w' => e = .returned (.int .i64 (gapI (fun t => eC z1 p1 i1 (t + 1)) (eC z2 p2 i2) t)) ∧ Below w.heap.size w w' := by
  have HK0 := Lib.hid (h.call (Below.refl _ _).drew)
  have HG := Lib.hid (show _ = gapI (fun t => eC z1 p1 i1 (t + 1)) (eC z2 p2 i2) t from gap_enc g1 g2 (s := t + 1) (t := t) (by omega) (by omega))
  obtain ⟨r, hr⟩ : ∃ r, t + 1 = r := ⟨_, rfl⟩
  have hri : (t : Int) + 1 = (r : Int) := by omega
  have hr2 : r ≤ 1001 := by omega
  have hrw : IntKind.i64.wrap (r : Int) = (r : Int) := IntWalk.i64_in _ ⟨by omega, by omega⟩
  obtain ⟨x, hx⟩ : ∃ x, atC z1 p1 i1 (t + 1) = x := ⟨_, rfl⟩
  obtain ⟨y, hy⟩ : ∃ y, atC z2 p2 i2 t = y := ⟨_, rfl⟩
  have HM := Lib.hid (show (x = infV ∨ (0 ≤ x ∧ x ≤ 1125899906842624)) ∧ (y = infV ∨ (0 ≤ y ∧ y ≤ 1125899906842624)) by rw [← hx, ← hy]; exact ⟨at_mid2 g1 (by omega), at_mid2 g2 (by omega)⟩)
  rw [hx, hy] at HG
  rw [hr] at hx
  have HX := Lib.hid hx
  have HY := Lib.hid hy
  obtain ⟨c0, c1, _⟩ := k2s_of h
  have EV := Lib.hid (show ∀ (args : Array Value) (w : World), (callFunc 181 args).run Try.prog w = .ok (.enter 181 args) w from enters_of Try.func181 (by kernel_rfl) rfl)
  have ev := EV.out
  clear h g1 g2 hx hy hr
  go_enter Try.func132, Try.ntmps132
  go_upto_region 1 with fail
  clear c0 c1
  refine wp_region_keeps (fun u => K2S w AB BB B C a1 n1 cap1 p1 i1 z1 a2 n2 cap2 p2 i2 z2 L u) 8 1 (by kernel_rfl) (by kernel_rfl) (k2s_of HK0.out) (fun hHeld0 => ?_)
  refine wpAnyK_take (i := 0) (v := ?_) rfl (by kernel_rfl) (fun _ _ _ h => h) (Or.inl ⟨by rfl, ?_⟩) (by assumption) ?_
  rotate_left
  · (intro w hSw; (try dsimp only at hSw); go_simp; try with_reducible rfl)
  try simp only [Act.put, List.getElem_toArray, List.getElem_cons_zero, List.getElem_cons_succ, List.setIfInBounds_toArray, List.set_cons_zero, List.set_cons_succ]
  refine wpAnyK_take (i := 1) (v := ?_) rfl (by kernel_rfl) (fun _ _ _ h => h) (Or.inl ⟨by rfl, ?_⟩) (by assumption) ?_
  rotate_left
  · (intro w hSw; (try dsimp only at hSw); go_simp; try with_reducible rfl)
  try simp only [Act.put, List.getElem_toArray, List.getElem_cons_zero, List.getElem_cons_succ, List.setIfInBounds_toArray, List.set_cons_zero, List.set_cons_succ]
  refine wpAnyK_take (i := 2) (v := ?_) rfl (by kernel_rfl) (fun _ _ _ h => h) (Or.inl ⟨by rfl, ?_⟩) (by assumption) ?_
  rotate_left
  · (intro w hSw; (try dsimp only at hSw); go_simp; try with_reducible rfl)
  try simp only [Act.put, List.getElem_toArray, List.getElem_cons_zero, List.getElem_cons_succ, List.setIfInBounds_toArray, List.set_cons_zero, List.set_cons_succ]
  refine wpAnyK_take (i := 4) (v := ?_) rfl (by kernel_rfl) (fun _ _ _ h => h) (Or.inl ⟨by rfl, ?_⟩) (by assumption) ?_
  rotate_left
  · (intro w hSw; (try dsimp only at hSw); go_simp; try with_reducible rfl)
  try simp only [Act.put, List.getElem_toArray, List.getElem_cons_zero, List.getElem_cons_succ, List.setIfInBounds_toArray, List.set_cons_zero, List.set_cons_succ]
  refine wpAnyK_take (i := 5) (v := ?_) rfl (by kernel_rfl) (fun _ _ _ h => h) (Or.inl ⟨by rfl, ?_⟩) (by assumption) ?_
  rotate_left
  · (intro w hSw; (try dsimp only at hSw); go_simp; try with_reducible rfl)
  try simp only [Act.put, List.getElem_toArray, List.getElem_cons_zero, List.getElem_cons_succ, List.setIfInBounds_toArray, List.set_cons_zero, List.set_cons_succ]
  refine wpAnyK_step (i := 3) rfl (by kernel_rfl) (fun K hK => ?_)
  go_simp
  with_reducible refine (closG_at HK0.out.cl r (by omega)).mono ?_
  rintro e u3 ⟨rfl, hd⟩
  have T1 := Lib.hid (HK0.out.call (below_dr (Below.refl _ _) hd))
  clear hd
  rw [HX.out]
  refine hK.out _ _ (k2s_of T1.out) (fun hHeld1 => ?_)
  clear hK K hHeld0
  try simp only [Act.put, List.getElem_toArray, List.getElem_cons_zero, List.getElem_cons_succ, List.setIfInBounds_toArray, List.set_cons_zero, List.set_cons_succ]
  refine wpAnyK_step (i := 6) rfl (by kernel_rfl) (fun K hK => ?_)
  go_simp
  with_reducible refine (closG_at T1.out.dl t (by omega)).mono ?_
  rintro e u4 ⟨rfl, hd⟩
  have T2 := Lib.hid (T1.out.call (below_dr (Below.refl _ _) hd))
  clear hd
  rw [HY.out]
  refine hK.out _ _ (k2s_of T2.out) (fun hHeld2 => ?_)
  clear hK K hHeld1
  try simp only [Act.put, List.getElem_toArray, List.getElem_cons_zero, List.getElem_cons_succ, List.setIfInBounds_toArray, List.set_cons_zero, List.set_cons_succ]
  refine wpAnyK_step (i := 7) rfl (by kernel_rfl) (fun K hK => ?_)
  go_simp
  with_reducible refine (ahead_any x y HM.out.1 HM.out.2 _).mono ?_
  rintro e u5 ⟨rfl, rfl⟩
  rw [HG.out]
  refine hK.out _ _ (k2s_of T2.out) (fun hHeld3 => ?_)
  clear hK K hHeld2
  try simp only [Act.put, List.getElem_toArray, List.getElem_cons_zero, List.getElem_cons_succ, List.setIfInBounds_toArray, List.set_cons_zero, List.set_cons_succ]
  refine wpAnyK_done (by kernel_rfl) ?_
  simp only [List.drop_succ_cons, List.drop_zero]
  clear hHeld3
  go_wp2_with fail
  go_ret
  exact ⟨rfl, T2.out.below⟩
end Go.Proofs.Ytjjaaknjdmijbaa

namespace Go.Proofs.Ytjjaaknjdmijbaa
open Go.RowKit
set_option linter.unusedSimpArgs false
set_option linter.unusedVariables false

/-- The boxes of the two curves and of the result. -/
structure SV (w : World) (a1 : Option Addr) (n1 cap1 p1 : Nat) (i1 : Int) (z1 : List Int) (a2 : Option Addr) (n2 cap2 p2 : Nat) (i2 : Int) (z2 : List Int) (u : World) : Prop where
  c1 : Cur3 u w.heap.size (.slice a1 n1 cap1) (.int .i64 p1) (.int .i64 i1)
  c2 : Cur3 u (w.heap.size + 1) (.slice a2 n2 cap2) (.int .i64 p2) (.int .i64 i2)
  res : Cur3 u (w.heap.size + 2) (.bool false) (.int .i64 0) (.int .i64 0)
  r1 : RowZ u a1 n1 cap1 z1
  r2 : RowZ u a2 n2 cap2 z2
  below : Below w.heap.size w u
section
variable {w u v : World} {a1 : Option Addr} {n1 cap1 p1 : Nat} {i1 : Int} {z1 : List Int} {a2 : Option Addr} {n2 cap2 p2 : Nat} {i2 : Int} {z2 : List Int}
theorem SV.call (h : SV w a1 n1 cap1 p1 i1 z1 a2 n2 cap2 p2 i2 z2 u) (hb : Below u.heap.size u v) : SV w a1 n1 cap1 p1 i1 z1 a2 n2 cap2 p2 i2 z2 v :=
  ⟨h.c1.below hb, h.c2.below hb, h.res.below hb, h.r1.under hb, h.r2.under hb, h.below.trans (hb.mono h.below.size)⟩
theorem sv_start (h1 : RowZ w a1 n1 cap1 z1) (h2 : RowZ w a2 n2 cap2 z2) {W : World} (hW : ((w.alloc (.cells #[.slice a1 n1 cap1, .int .i64 p1, .int .i64 i1] 24)).alloc (.cells #[.slice a2 n2 cap2, .int .i64 p2, .int .i64 i2] 24)).alloc (.cells #[.bool false, .int .i64 0, .int .i64 0] 74) = W) : SV w a1 n1 cap1 p1 i1 z1 a2 n2 cap2 p2 i2 z2 W ∧ W.heap.size = w.heap.size + 3 := by
  subst hW
  have hB : Below w.heap.size w (((w.alloc (.cells #[.slice a1 n1 cap1, .int .i64 p1, .int .i64 i1] 24)).alloc (.cells #[.slice a2 n2 cap2, .int .i64 p2, .int .i64 i2] 24)).alloc (.cells #[.bool false, .int .i64 0, .int .i64 0] 74)) := (((Below.refl _ _).alloc (Nat.le_refl _) _).alloc (by simp) _).alloc (by simp; omega) _
  refine ⟨⟨((Cur3.new w _ _ _ _).alloc _).alloc _, (Cur3.new2 w _ _ _ _ _).alloc _, ?_, h1.under hB, h2.under hB, hB⟩, by simp⟩
  have := Cur3.new ((w.alloc (.cells #[.slice a1 n1 cap1, .int .i64 p1, .int .i64 i1] 24)).alloc (.cells #[.slice a2 n2 cap2, .int .i64 p2, .int .i64 i2] 24)) (.bool false) (.int .i64 0) (.int .i64 0) 74
  simpa using this
end
/-- Behind the pair: the result's box, the pair's, its curves. -/
structure SPv (w : World) (PB : Nat) (a3 : Option Addr) (n3 cap3 r1 : Nat) (k1 : Int) (x1 : List Int) (a4 : Option Addr) (n4 cap4 r2 : Nat) (k2 : Int) (x2 : List Int) (L : Nat) (u : World) : Prop where
  res : Cur3 u (w.heap.size + 2) (.bool false) (.int .i64 0) (.int .i64 0)
  pr : P7 u PB (.slice a3 n3 cap3) (.int .i64 r1) (.int .i64 k1) (.slice a4 n4 cap4) (.int .i64 r2) (.int .i64 k2) (.int .i64 L)
  r1 : RowZ u a3 n3 cap3 x1
  r2 : RowZ u a4 n4 cap4 x2
  below : Below w.heap.size w u
section
variable {w u v : World} {PB : Nat} {a3 : Option Addr} {n3 cap3 r1 : Nat} {k1 : Int} {x1 : List Int} {a4 : Option Addr} {n4 cap4 r2 : Nat} {k2 : Int} {x2 : List Int} {L : Nat}
theorem SPv.call (h : SPv w PB a3 n3 cap3 r1 k1 x1 a4 n4 cap4 r2 k2 x2 L u) (hb : Below u.heap.size u v) : SPv w PB a3 n3 cap3 r1 k1 x1 a4 n4 cap4 r2 k2 x2 L v :=
  ⟨h.res.below hb, h.pr.below hb, h.r1.under hb, h.r2.under hb, h.below.trans (hb.mono h.below.size)⟩
end
/-- A deviation is handed back, and no error. -/
def GivesDev (P : Bool → Int → Nat → Prop) (w : World) (e : Ending) (w' : World) : Prop :=
  ∃ i m k, e = .returned (.tuple #[.agg #[.bool i, .int .i64 m, .int .i64 (k : Nat)], .int .i64 0]) ∧ Below w.heap.size w w' ∧ P i m k
/-- The curves are taken as they are: their normal forms have the same values. -/
theorem norm_E {zs ys : List Int} {p q : Nat} {inc jnc : Int} (h : NormC zs p inc ys q jnc) (g : Good zs p inc) : eC ys q jnc = eC zs p inc := funext fun t => (h.eform g).2.1 t
theorem pairP_of {z1 z2 y1 y2 : List Int} {p1 p2 q1 q2 : Nat} {i1 i2 j1 j2 : Int} (g1 : Good z1 p1 i1) (g2 : Good z2 p2 i2) (hn1 : NormC z1 p1 i1 y1 q1 j1) (hn2 : NormC z2 p2 i2 y2 q2 j2) {L : Nat} (hL : q1 / Nat.gcd q1 q2 * q2 = L) (hL2 : L ≤ 120) : PairP y1 q1 j1 y2 q2 j2 L :=
  ⟨hn1.good g1, hn2.good g2, norm_self2 hn1 g1, norm_self2 hn2 g2, (lcm_of (hn1.good g1).p1 (hn2.good g2).p1 hL).mult, hL2⟩
set_option maxRecDepth 100000 in
set_option maxHeartbeats 6400000 in
theorem delay_ok (a1 : Option Addr) (n1 cap1 : Nat) (z1 : List Int) (p1 : Nat) (i1 : Int) (g1 : Good z1 p1 i1) (a2 : Option Addr) (n2 cap2 : Nat) (z2 : List Int) (p2 : Nat) (i2 : Int) (g2 : Good z2 p2 i2)
    {y1 y2 : List Int} {q1 q2 : Nat} {j1 j2 : Int} (hn1 : NormC z1 p1 i1 y1 q1 j1) (hn2 : NormC z2 p2 i2 y2 q2 j2) (L : Nat) (hL : q1 / Nat.gcd q1 q2 * q2 = L) (hL2 : L ≤ 120) (w : World) (h1 : RowZ w a1 n1 cap1 z1) (h2 : RowZ w a2 n2 cap2 z2) :
    Calls Try.prog 56 #[curV a1 n1 cap1 p1 i1, curV a2 n2 cap2 p2 i2] w (GivesDev (DevD (eC z1 p1 i1) (eC z2 p2 i2)) w) := by
  have hmf : ∀ (fn : Fn) (first cap : Array Value) (w : World), (Instr.makeFunc fn first cap).run Try.prog w = .ok (.func fn first cap) w := fun _ _ _ _ => rfl
  obtain ⟨W, hW⟩ : ∃ W, ((w.alloc (.cells #[.slice a1 n1 cap1, .int .i64 p1, .int .i64 i1] 24)).alloc (.cells #[.slice a2 n2 cap2, .int .i64 p2, .int .i64 i2] 24)).alloc (.cells #[.bool false, .int .i64 0, .int .i64 0] 74) = W := ⟨_, rfl⟩
  obtain ⟨t0, hsz⟩ := sv_start (p1 := p1) (i1 := i1) (p2 := p2) (i2 := i2) h1 h2 hW
  have T0 := Lib.hid t0
  have HSZ := Lib.hid hsz
  have HW := Lib.hid hW
  have HP := Lib.hid (pairP_of g1 g2 hn1 hn2 hL hL2)
  have HE := Lib.hid (And.intro (norm_E hn1 g1) (norm_E hn2 g2))
  have G1 := Lib.hid g1
  have G2 := Lib.hid g2
  have HN := Lib.hid (And.intro hn1 hn2)
  have HL := Lib.hid (And.intro hL hL2)
  clear t0 hsz hW g1 g2 hn1 hn2 hL hL2 h1 h2
  obtain ⟨c0, c1, c2, f0, f1, f2⟩ := T0.out.c1
  obtain ⟨d0, d1, d2, e0, e1, e2⟩ := T0.out.c2
  go_enter Try.func56, Try.ntmps56
  go_upto_region 1 with fail
  try rw [HW.out]
  go_wp2_with fail
  refine (vpaired_ok a1 n1 cap1 z1 p1 i1 G1.out a2 n2 cap2 z2 p2 i2 G2.out HN.out.1 HN.out.2 L HL.out.1 HL.out.2 _ T0.out.r1 T0.out.r2).mono ?_
  rintro e w1 ⟨a3, n3, cap3, a4, n4, cap4, rfl, hb, hr1, hr2⟩
  obtain ⟨w2, hw2⟩ : ∃ W', w1.alloc (.cells #[.slice a3 n3 cap3, .int .i64 q1, .int .i64 j1, .slice a4 n4 cap4, .int .i64 q2, .int .i64 j2, .int .i64 L] 130) = W' := ⟨_, rfl⟩
  have hz : Below w1.heap.size w1 w2 := by rw [← hw2]; exact (Below.refl _ _).alloc (Nat.le_refl _) _
  have S2 := Lib.hid (show SPv w w1.heap.size a3 n3 cap3 q1 j1 y1 a4 n4 cap4 q2 j2 y2 L w2 from ⟨(T0.out.res.below hb).below hz, by rw [← hw2]; exact p7_new w1 _ _ _ _ _ _ _ _, hr1.under hz, hr2.under hz, (T0.out.below.trans (hb.mono T0.out.below.size)).trans (hz.mono (Nat.le_trans T0.out.below.size hb.size))⟩)
  have HSB := Lib.hid (show w.heap.size + 3 ≤ w1.heap.size from Nat.le_trans (Nat.le_of_eq HSZ.out.symm) hb.size)
  have HW2 := Lib.hid hw2
  clear hb hr1 hr2 hw2 hz c0 c1 c2 f0 f1 f2 d0 d1 d2 e0 e1 e2
  go_upto_region 4 with fail
  try rw [HW2.out]
  obtain ⟨PB, hPB⟩ : ∃ PB, w1.heap.size = PB := ⟨_, rfl⟩
  rw [hPB] at S2 HSB
  try rw [hPB]
  clear hPB HW2
  obtain ⟨⟨c0, c1, c2, f0, f1, f2⟩, c3, c4, c5, c6, f3, f4, f5, f6⟩ := S2.out.pr
  go_wp2_with fail
  refine (pvalues_p a3 n3 cap3 y1 q1 j1 HP.out.g _ S2.out.r1).mono ?_
  rintro e w3 ⟨B, rfl, hb, hlB, hmB, hcl⟩
  obtain ⟨w4, hw4⟩ : ∃ W', w3.alloc (.cells #[.func (.func 181) #[] #[.pointer (some ⟨B + 1, 0, none⟩), .pointer (some ⟨B, 0, none⟩)]] 33) = W' := ⟨_, rfl⟩
  have hz : Below w3.heap.size w3 w4 := by rw [← hw4]; exact (Below.refl _ _).alloc (Nat.le_refl _) _
  have S5 := Lib.hid (show SPv w PB a3 n3 cap3 q1 j1 y1 a4 n4 cap4 q2 j2 y2 L w4 from (S2.out.call hb).call hz)
  have HCD := Lib.hid (show ClosD 123 #[.pointer (some ⟨PB, 0, none⟩), .pointer (some ⟨w3.heap.size, 0, none⟩)] (max (y1.length - q1) (y2.length - q2) + L) (waitI (eC y1 q1 j1) (eC y2 q2 j2)) w4 from fun u hu t ht => by
    have hp := HP.out
    have hfe := hp.g.few
    have hfe2 := hp.k.few
    have hl := hp.l
    have S := S5.out.call hu
    exact delay1_any PB w3.heap.size B a3 n3 cap3 q1 j1 y1 a4 n4 cap4 q2 j2 y2 L hp.g hp.k t (by omega) u ⟨S.pr, by
      have : w4.cell? ⟨w3.heap.size, 0, none⟩ = some (closPV B) := by rw [← hw4]; exact new_cell _ _ _
      exact (hu.cell (lt_of_cell this)).trans this, (hcl.under hz).under hu, S.r2, Below.refl _ _⟩)
  have HW4 := Lib.hid hw4
  clear hb hlB hmB hcl hz hw4 c0 c1 c2 f0 f1 f2 c3 c4 c5 c6 f3 f4 f5 f6
  go_upto_region 5 with fail
  try rw [HW4.out]
  have EG := Lib.hid (show ∀ (args : Array Value) (w : World), (callFunc 123 args).run Try.prog w = .ok (.enter 123 args) w from enters_of Try.func123 (by kernel_rfl) rfl)
  obtain ⟨⟨c0, c1, c2, f0, f1, f2⟩, c3, c4, c5, c6, f3, f4, f5, f6⟩ := S5.out.pr
  go_wp2_with fail
  refine (greatest_any a3 n3 cap3 y1 q1 j1 a4 n4 cap4 y2 q2 j2 L HP.out 123 #[.pointer (some ⟨PB, 0, none⟩), .pointer (some ⟨w3.heap.size, 0, none⟩)] (waitI (eC y1 q1 j1) (eC y2 q2 j2)) _ rfl (fun t ht => by
    have hp := HP.out
    have hfe := hp.g.few
    have hfe2 := hp.k.few
    have hl := hp.l
    rcases waitI_bd hp.g hp.k (t := t) (by omega) with h | h
    · rw [h]; unfold infV; omega
    · omega) _ S5.out.r1 S5.out.r2 EG.out HCD.out).mono ?_
  rintro e u7 ⟨i, m, k, rfl, hb, hG⟩
  have S6 := Lib.hid (S5.out.call hb)
  have HG := Lib.hid hG
  clear c0 c1 c2 f0 f1 f2 c3 c4 c5 c6 f3 f4 f5 f6 hb hG
  obtain ⟨c0, c1, c2, f0, f1, f2⟩ := S6.out.res
  have HF := Lib.hid (show GivesDev (DevD (eC z1 p1 i1) (eC z2 p2 i2)) w (.returned (.tuple #[.agg #[.bool i, .int .i64 m, .int .i64 k], .int .i64 0])) (((u7.setCell ⟨w.heap.size + 2, 0, none⟩ (.bool i)).setCell ⟨w.heap.size + 2, 1, none⟩ (.int .i64 m)).setCell ⟨w.heap.size + 2, 2, none⟩ (.int .i64 k)) from ⟨i, m, k, rfl, below_set3 S6.out.below (by omega) _ _ _, by
    have hp := HP.out
    have hfe := hp.g.few
    have hfe2 := hp.k.few
    have hl := hp.l
    rw [← HE.out.1, ← HE.out.2]
    exact great_dev hp.g hp.k hp.m hl (Nat.le_refl _) (by omega) HG.out⟩)
  go_wp2_with fail
  exact bodyPost_ret (v := .tuple #[.agg #[.bool i, .int .i64 m, .int .i64 k], .int .i64 0]) (by simp [results, Try.results56, go_sem, c0, c1, c2]) rfl HF.out

end Go.Proofs.Ytjjaaknjdmijbaa
