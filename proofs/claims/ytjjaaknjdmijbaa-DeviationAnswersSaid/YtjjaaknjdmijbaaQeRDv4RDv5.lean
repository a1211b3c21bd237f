/- Of the document's deviation: Delay. By the verifier's side. -/
import Derived.Test.YtjjaaknjdmijbaaQeRDv1RDv2RDv3
import Derived.Test.YtjjaaknjdmijbaaQeDevCDevDDevE
import Derived.Test.YtjjaaknjdmijbaaQeRBad
import Derived.Test.YtjjaaknjdmijbaaQeOrdAS
namespace Go.Proofs.Ytjjaaknjdmijbaa
open Go.RowKit
set_option linter.unusedSimpArgs false
set_option linter.unusedVariables false

/-- Behind the document's pair: the normal forms' boxes, the result's. -/
structure DR (w : World) (A : Nat) (b1 : Option Addr) (m1 c1 q1 : Nat) (j1 : Int) (y1 : List Int) (b2 : Option Addr) (m2 c2 q2 : Nat) (j2 : Int) (y2 : List Int) (u : World) : Prop where
  x : Bx u A b1 m1 c1 q1 j1 y1
  y : Bx u (A + 1) b2 m2 c2 q2 j2 y2
  res : Cur3 u (w.heap.size + 2) (.bool false) (.int .i64 0) (.int .i64 0)
  lo : w.heap.size + 2 < A
  below : Below w.heap.size w u
/-- While the greatest is searched: the search so far stands in the box O. -/
structure SoF (w : World) (A : Nat) (b1 : Option Addr) (m1 c1 q1 : Nat) (j1 : Int) (y1 : List Int) (b2 : Option Addr) (m2 c2 q2 : Nat) (j2 : Int) (y2 : List Int) (D : Nat → Int) (O : Nat) (m : Int) (k t : Nat) (u : World) : Prop where
  r : DR w A b1 m1 c1 q1 j1 y1 b2 m2 c2 q2 j2 y2 u
  box : Cur3 u O (.bool false) (.int .i64 m) (.int .i64 k)
  lo : A + 1 < O
  most : Most D t m k
section
variable {w u v : World} {A : Nat} {b1 : Option Addr} {m1 c1 q1 : Nat} {j1 : Int} {y1 : List Int} {b2 : Option Addr} {m2 c2 q2 : Nat} {j2 : Int} {y2 : List Int} {D : Nat → Int} {O : Nat} {m : Int} {k t : Nat}
theorem DR.call (h : DR w A b1 m1 c1 q1 j1 y1 b2 m2 c2 q2 j2 y2 u) (hb : Below u.heap.size u v) : DR w A b1 m1 c1 q1 j1 y1 b2 m2 c2 q2 j2 y2 v := ⟨h.x.under hb, h.y.under hb, h.res.below hb, h.lo, h.below.trans (hb.mono h.below.size)⟩
theorem SoF.call (h : SoF w A b1 m1 c1 q1 j1 y1 b2 m2 c2 q2 j2 y2 D O m k t u) (hb : Below u.heap.size u v) : SoF w A b1 m1 c1 q1 j1 y1 b2 m2 c2 q2 j2 y2 D O m k t v := ⟨h.r.call hb, h.box.below hb, h.lo, h.most⟩
end
abbrev SoFS (w : World) (A : Nat) (b1 : Option Addr) (m1 c1 q1 : Nat) (j1 : Int) (y1 : List Int) (b2 : Option Addr) (m2 c2 q2 : Nat) (j2 : Int) (y2 : List Int) (D : Nat → Int) (O : Nat) (m : Int) (k t : Nat) (u : World) : Prop :=
  u.cell? ⟨A, 0, none⟩ = some (.slice b1 m1 c1) ∧ u.cell? ⟨A, 1, none⟩ = some (.int .i64 q1) ∧ u.cell? ⟨A, 2, none⟩ = some (.int .i64 j1) ∧ u.cell? ⟨A + 1, 0, none⟩ = some (.slice b2 m2 c2) ∧ u.cell? ⟨A + 1, 1, none⟩ = some (.int .i64 q2) ∧ u.cell? ⟨A + 1, 2, none⟩ = some (.int .i64 j2) ∧ Hid (SoF w A b1 m1 c1 q1 j1 y1 b2 m2 c2 q2 j2 y2 D O m k t u)
theorem sofs_of {w u : World} {A : Nat} {b1 : Option Addr} {m1 c1 q1 : Nat} {j1 : Int} {y1 : List Int} {b2 : Option Addr} {m2 c2 q2 : Nat} {j2 : Int} {y2 : List Int} {D : Nat → Int} {O : Nat} {m : Int} {k t : Nat} (h : SoF w A b1 m1 c1 q1 j1 y1 b2 m2 c2 q2 j2 y2 D O m k t u) : SoFS w A b1 m1 c1 q1 j1 y1 b2 m2 c2 q2 j2 y2 D O m k t u := ⟨h.r.x.box.c0, h.r.x.box.c1, h.r.x.box.c2, h.r.y.box.c0, h.r.y.box.c1, h.r.y.box.c2, h⟩
theorem cur3_put12 {u : World} {b : Nat} {x0 x1 x2 : Value} (h : Cur3 u b x0 x1 x2) (y1 y2 : Value) : Cur3 ((u.setCell ⟨b, 1, none⟩ y1).setCell ⟨b, 2, none⟩ y2) b x0 y1 y2 := by
  obtain ⟨c0, c1, c2, f0, f1, f2⟩ := h
  exact ⟨by go_simp, by go_simp, by go_simp, by go_simp, by go_simp, by go_simp⟩
theorem dr_put {w u : World} {A : Nat} {b1 : Option Addr} {m1 c1 q1 : Nat} {j1 : Int} {y1 : List Int} {b2 : Option Addr} {m2 c2 q2 : Nat} {j2 : Int} {y2 : List Int} (h : DR w A b1 m1 c1 q1 j1 y1 b2 m2 c2 q2 j2 y2 u) {O : Nat} (hO : A + 1 < O) (hx : (∀ x, b1 = some x → 1 ≤ m1 → x.block < O) ∧ ∀ x, b2 = some x → 1 ≤ m2 → x.block < O) (v1 v2 : Value) : DR w A b1 m1 c1 q1 j1 y1 b2 m2 c2 q2 j2 y2 ((u.setCell ⟨O, 1, none⟩ v1).setCell ⟨O, 2, none⟩ v2) := by
  have hl := h.lo
  have e1 : ∀ x, b1 = some x → 1 ≤ m1 → ¬ x.block = O := fun x e e1 => by have := hx.1 x e e1; omega
  have e2 : ∀ x, b2 = some x → 1 ≤ m2 → ¬ x.block = O := fun x e e1 => by have := hx.2 x e e1; omega
  exact ⟨⟨(h.x.box.other (by omega) _ _).other (by omega) _ _, (h.x.row.store e1 _ _).store e1 _ _⟩, ⟨(h.y.box.other (by omega) _ _).other (by omega) _ _, (h.y.row.store e2 _ _).store e2 _ _⟩, (h.res.other (by omega) _ _).other (by omega) _ _, h.lo, (h.below.setCell (by show w.heap.size ≤ O; omega) _).setCell (by show w.heap.size ≤ O; omega) _⟩

/-- Where no distance is infinite the arrival curve is not faster, be one of them infinite. -/
theorem not_fast {y1 y2 : List Int} {q1 q2 : Nat} {j1 j2 : Int} {L N : Nat} {D : Nat → Int} (g : Good y1 q1 j1) (k : Good y2 q2 j2) (hL : L ≤ 120) (hn : ¬ (¬ InfC y1 ∧ ¬ InfC y2 ∧ growI y2 q2 j2 L < growI y1 q1 j1 L)) (hN : y1.length ≤ N) (hD : ∀ t, t < N → ¬ D t = infV) (hI : InfC y1 → ¬ InfC y2 → D (y1.length - 1) = infV) : ¬ growI y2 q2 j2 L < growI y1 q1 j1 L := fun h => by
  by_cases f2 : InfC y2
  · rw [growI_inf f2] at h
    rcases grow_low g hL with h2 | h2
    · omega
    · unfold infV at h; omega
  · by_cases f1 : InfC y1
    · have := g.p1; have := g.p3
      exact hD _ (by omega) (hI f1 f2)
    · exact hn ⟨f1, f2, h⟩
theorem wait_inf {y1 y2 : List Int} {q1 q2 : Nat} {j1 j2 : Int} (g : Good y1 q1 j1) (f1 : InfC y1) (f2 : ¬ InfC y2) : waitI (eC y1 q1 j1) (eC y2 q2 j2) (y1.length - 1) = infV := by
  have e : FirstP (eC y2 q2 j2) (eC y1 q1 j1 (y1.length - 1)) false 0 := .inr ⟨rfl, rfl, fun y hy => by
    rw [eC_late g f1 (Nat.le_refl _), eC_fin f2] at hy
    exact not_none_le hy⟩
  rw [waitI_eq e]; rfl

set_option maxRecDepth 100000 in
set_option maxHeartbeats 6400000 in
theorem rdelay10_lim (a1 : Option Addr) (n1 cap1 : Nat) (z1 : List Int) (p1 : Nat) (i1 : Int) (g1 : Good z1 p1 i1) (a2 : Option Addr) (n2 cap2 : Nat) (z2 : List Int) (p2 : Nat) (i2 : Int) (g2 : Good z2 p2 i2) (L : Nat) (hL : LcmN z1 p1 i1 z2 p2 i2 L) (h120 : 120 < L) (w : World) (h1 : RowZ w a1 n1 cap1 z1) (h2 : RowZ w a2 n2 cap2 z2) :
    Calls Try.prog 57 #[curV a1 n1 cap1 p1 i1, curV a2 n2 cap2 p2 i2] w (Says (.tuple #[.agg #[.bool false, .int .i64 0, .int .i64 0], .int .i64 3]) w) := by
  obtain ⟨W, hW⟩ : ∃ W, ((w.alloc (.cells #[.slice a1 n1 cap1, .int .i64 p1, .int .i64 i1] 24)).alloc (.cells #[.slice a2 n2 cap2, .int .i64 p2, .int .i64 i2] 24)).alloc (.cells #[.bool false, .int .i64 0, .int .i64 0] 74) = W := ⟨_, rfl⟩
  obtain ⟨t0, hsz⟩ := sv_start (p1 := p1) (i1 := i1) (p2 := p2) (i2 := i2) h1 h2 hW
  have T0 := Lib.hid t0
  have HSZ := Lib.hid hsz
  have HW := Lib.hid hW
  have G1 := Lib.hid g1
  have G2 := Lib.hid g2
  have HL := Lib.hid hL
  obtain ⟨l0, hl0⟩ : ∃ l : Int, l = if 120 < L then 0 else (L : Int) := ⟨_, rfl⟩
  obtain ⟨e0, he0⟩ : ∃ c : Int, c = if 120 < L then 3 else 0 := ⟨_, rfl⟩
  have HC := Lib.hid (And.intro hl0 he0)
  clear t0 hsz hW g1 g2 hL h1 h2 hl0 he0
  obtain ⟨c0, c1, c2, f0, f1, f2⟩ := T0.out.c1
  obtain ⟨d0, d1, d2, e0', e1, e2⟩ := T0.out.c2
  go_enter Try.func57, Try.ntmps57
  go_upto_region 1 with fail
  try rw [HW.out]
  go_wp2_with fail
  clear c0 c1 c2 f0 f1 f2 d0 d1 d2 e0' e1 e2
  refine (rpair_any a1 n1 cap1 z1 p1 i1 G1.out a2 n2 cap2 z2 p2 i2 G2.out L HL.out l0 e0 HC.out.1 HC.out.2 _ T0.out.r1 T0.out.r2).mono ?_
  rintro e v1 ⟨b1, m1, c1, y1, q1, j1, b2, m2, c2, y2, q2, j2, rfl, hb, hr1, hr2, hn1, hn2, hx1, hx2⟩
  obtain ⟨w3, hw⟩ : ∃ W, (v1.alloc (.cells #[.slice b1 m1 c1, .int .i64 q1, .int .i64 j1] 24)).alloc (.cells #[.slice b2 m2 c2, .int .i64 q2, .int .i64 j2] 24) = W := ⟨_, rfl⟩
  have hz1 : Below v1.heap.size v1 w3 := by rw [← hw]; exact ((Below.refl _ _).alloc (Nat.le_refl _) _).alloc (by simp) _
  have hz : Below W.heap.size W w3 := hb.trans (hz1.mono hb.size)
  have GY := Lib.hid (And.intro (hn1.good G1.out) (hn2.good G2.out))
  have HE := Lib.hid (And.intro (norm_E hn1 G1.out) (norm_E hn2 G2.out))
  have HM := Lib.hid (show Mult q1 q2 L from by
    obtain ⟨x1, r1, k1, x2, r2, k2, h1, h2, h3⟩ := HL.out
    obtain ⟨rfl, rfl, rfl⟩ := (h1.eform G1.out).unique (hn1.eform G1.out)
    obtain ⟨rfl, rfl, rfl⟩ := (h2.eform G2.out).unique (hn2.eform G2.out)
    exact (lcm_of (hn1.good G1.out).p1 (hn2.good G2.out).p1 h3).mult)
  have T3 := Lib.hid (show DR w v1.heap.size b1 m1 c1 q1 j1 y1 b2 m2 c2 q2 j2 y2 w3 from ⟨by rw [← hw]; exact (Bx.new hr1).under (box_below _ _), by
    rw [← hw]
    have := Bx.new (p := q2) (inc := j2) (hr2.under (box_below v1 (.cells #[.slice b1 m1 c1, .int .i64 q1, .int .i64 j1] 24)))
    simpa using this, T0.out.res.below hz, by have := hb.size; have := HSZ.out; omega, T0.out.below.trans (hz.mono T0.out.below.size)⟩)
  have X3 := Lib.hid (And.intro hx1 hx2)
  have HW3 := Lib.hid hw
  clear hb hr1 hr2 hn1 hn2 hx1 hx2 hw hz hz1
  go_upto_region 2 with fail
  try rw [HW3.out]
  obtain ⟨A, hA⟩ : ∃ A, v1.heap.size = A := ⟨_, rfl⟩
  rw [hA] at T3
  try rw [hA]
  clear hA HW3
  obtain ⟨el, ec⟩ := HC.out
  rw [if_pos h120] at el ec
  subst el ec
  obtain ⟨r0, r1, r2, g0, g1, g2⟩ := T3.out.res
  have HB := Lib.hid (show Below w.heap.size w (((w3.setCell ⟨w.heap.size + 2, 0, none⟩ (.bool false)).setCell ⟨w.heap.size + 2, 1, none⟩ (.int .i64 0)).setCell ⟨w.heap.size + 2, 2, none⟩ (.int .i64 0)) from below_set3 T3.out.below (by omega) _ _ _)
  clear h120
  go_wp2_with fail
  exact bodyPost_ret (v := (.tuple #[.agg #[.bool false, .int .i64 0, .int .i64 0], .int .i64 3])) (by simp [results, Try.results57, go_sem, r0, r1, r2]) rfl ⟨rfl, HB.out⟩

set_option maxRecDepth 100000 in
set_option maxHeartbeats 6400000 in
theorem rdelay10_ok (a1 : Option Addr) (n1 cap1 : Nat) (z1 : List Int) (p1 : Nat) (i1 : Int) (g1 : Good z1 p1 i1) (a2 : Option Addr) (n2 cap2 : Nat) (z2 : List Int) (p2 : Nat) (i2 : Int) (g2 : Good z2 p2 i2) (L : Nat) (hL : LcmN z1 p1 i1 z2 p2 i2 L) (h120 : L ≤ 120) (w : World) (h1 : RowZ w a1 n1 cap1 z1) (h2 : RowZ w a2 n2 cap2 z2) :
    Calls Try.prog 57 #[curV a1 n1 cap1 p1 i1, curV a2 n2 cap2 p2 i2] w (GivesDev (DevD (eC z1 p1 i1) (eC z2 p2 i2)) w) := by
  obtain ⟨W, hW⟩ : ∃ W, ((w.alloc (.cells #[.slice a1 n1 cap1, .int .i64 p1, .int .i64 i1] 24)).alloc (.cells #[.slice a2 n2 cap2, .int .i64 p2, .int .i64 i2] 24)).alloc (.cells #[.bool false, .int .i64 0, .int .i64 0] 74) = W := ⟨_, rfl⟩
  obtain ⟨t0, hsz⟩ := sv_start (p1 := p1) (i1 := i1) (p2 := p2) (i2 := i2) h1 h2 hW
  have T0 := Lib.hid t0
  have HSZ := Lib.hid hsz
  have HW := Lib.hid hW
  have G1 := Lib.hid g1
  have G2 := Lib.hid g2
  have HL := Lib.hid hL
  obtain ⟨l0, hl0⟩ : ∃ l : Int, l = if 120 < L then 0 else (L : Int) := ⟨_, rfl⟩
  obtain ⟨e0, he0⟩ : ∃ c : Int, c = if 120 < L then 3 else 0 := ⟨_, rfl⟩
  have HC := Lib.hid (And.intro hl0 he0)
  clear t0 hsz hW g1 g2 hL h1 h2 hl0 he0
  obtain ⟨c0, c1, c2, f0, f1, f2⟩ := T0.out.c1
  obtain ⟨d0, d1, d2, e0', e1, e2⟩ := T0.out.c2
  go_enter Try.func57, Try.ntmps57
  go_upto_region 1 with fail
  try rw [HW.out]
  go_wp2_with fail
  clear c0 c1 c2 f0 f1 f2 d0 d1 d2 e0' e1 e2
  refine (rpair_any a1 n1 cap1 z1 p1 i1 G1.out a2 n2 cap2 z2 p2 i2 G2.out L HL.out l0 e0 HC.out.1 HC.out.2 _ T0.out.r1 T0.out.r2).mono ?_
  rintro e v1 ⟨b1, m1, c1, y1, q1, j1, b2, m2, c2, y2, q2, j2, rfl, hb, hr1, hr2, hn1, hn2, hx1, hx2⟩
  obtain ⟨w3, hw⟩ : ∃ W, (v1.alloc (.cells #[.slice b1 m1 c1, .int .i64 q1, .int .i64 j1] 24)).alloc (.cells #[.slice b2 m2 c2, .int .i64 q2, .int .i64 j2] 24) = W := ⟨_, rfl⟩
  have hz1 : Below v1.heap.size v1 w3 := by rw [← hw]; exact ((Below.refl _ _).alloc (Nat.le_refl _) _).alloc (by simp) _
  have hz : Below W.heap.size W w3 := hb.trans (hz1.mono hb.size)
  have GY := Lib.hid (And.intro (hn1.good G1.out) (hn2.good G2.out))
  have HE := Lib.hid (And.intro (norm_E hn1 G1.out) (norm_E hn2 G2.out))
  have HM := Lib.hid (show Mult q1 q2 L from by
    obtain ⟨x1, r1, k1, x2, r2, k2, h1, h2, h3⟩ := HL.out
    obtain ⟨rfl, rfl, rfl⟩ := (h1.eform G1.out).unique (hn1.eform G1.out)
    obtain ⟨rfl, rfl, rfl⟩ := (h2.eform G2.out).unique (hn2.eform G2.out)
    exact (lcm_of (hn1.good G1.out).p1 (hn2.good G2.out).p1 h3).mult)
  have T3 := Lib.hid (show DR w v1.heap.size b1 m1 c1 q1 j1 y1 b2 m2 c2 q2 j2 y2 w3 from ⟨by rw [← hw]; exact (Bx.new hr1).under (box_below _ _), by
    rw [← hw]
    have := Bx.new (p := q2) (inc := j2) (hr2.under (box_below v1 (.cells #[.slice b1 m1 c1, .int .i64 q1, .int .i64 j1] 24)))
    simpa using this, T0.out.res.below hz, by have := hb.size; have := HSZ.out; omega, T0.out.below.trans (hz.mono T0.out.below.size)⟩)
  have X3 := Lib.hid (And.intro hx1 hx2)
  have HW3 := Lib.hid hw
  clear hb hr1 hr2 hn1 hn2 hx1 hx2 hw hz hz1
  go_upto_region 2 with fail
  try rw [HW3.out]
  obtain ⟨A, hA⟩ : ∃ A, v1.heap.size = A := ⟨_, rfl⟩
  rw [hA] at T3
  try rw [hA]
  clear hA HW3
  obtain ⟨el, ec⟩ := HC.out
  rw [if_neg (show ¬ 120 < L by omega)] at el ec
  subst el ec
  obtain ⟨fb, hfb⟩ : ∃ b : Bool, b = true ↔ (¬ InfC y1 ∧ ¬ InfC y2 ∧ growI y2 q2 j2 L < growI y1 q1 j1 L) := by
    by_cases h : ¬ InfC y1 ∧ ¬ InfC y2 ∧ growI y2 q2 j2 L < growI y1 q1 j1 L
    · exact ⟨true, fun _ => h, fun _ => rfl⟩
    · exact ⟨false, fun q => (by cases q), fun k => absurd k h⟩
  have HFB := Lib.hid hfb
  have IP := Lib.hid (show (In64 (q1 : Int) ∧ In64 j1) ∧ In64 (q2 : Int) ∧ In64 j2 from by
    have k1 := GY.out.1; have k2 := GY.out.2
    have := k1.p2; have := k1.i0; have := k1.i1; have := k2.p2; have := k2.i0; have := k2.i1
    exact ⟨⟨⟨by omega, by omega⟩, by omega, by omega⟩, ⟨by omega, by omega⟩, by omega, by omega⟩)
  clear hfb
  obtain ⟨c0, c1', c2', f0, f1, f2⟩ := T3.out.x.box
  obtain ⟨d0, d1, d2, e0', e1, e2⟩ := T3.out.y.box
  go_upto_region 4 with fail
  go_cut [37] (fun s37 wx => s37 = .bool fb ∧ Hid (DR w A b1 m1 c1 q1 j1 y1 b2 m2 c2 q2 j2 y2 wx))
  case first =>
    by_cases i1' : InfC y1
    · obtain rfl : fb = false := by
        cases fb with
        | false => rfl
        | true => exact absurd i1' (HFB.out.1 rfl).1
      go_wp2_with fail
      refine (rfinite_any b1 m1 c1 y1 q1 j1 IP.out.1.1 IP.out.1.2 false (finB_inf i1') _ T3.out.x.row).mono ?_
      rintro e w4 ⟨rfl, hb⟩
      have T4 := Lib.hid (T3.out.call hb)
      clear hb
      go_wp2_with fail
      go_meet
      exact ⟨rfl, T4⟩
    · go_wp2_with fail
      clear c0 c1' c2' f0 f1 f2 d0 d1 d2 e0' e1 e2
      refine (rfinite_any b1 m1 c1 y1 q1 j1 IP.out.1.1 IP.out.1.2 true ((finB_of GY.out.1).2 i1') _ T3.out.x.row).mono ?_
      rintro e w4 ⟨rfl, hb⟩
      have T4 := Lib.hid (T3.out.call hb)
      clear hb
      obtain ⟨d0, d1, d2, e0', e1, e2⟩ := T4.out.y.box
      by_cases i2' : InfC y2
      · obtain rfl : fb = false := by
          cases fb with
          | false => rfl
          | true => exact absurd i2' (HFB.out.1 rfl).2.1
        go_wp2_with fail
        refine (rfinite_any b2 m2 c2 y2 q2 j2 IP.out.2.1 IP.out.2.2 false (finB_inf i2') _ T4.out.y.row).mono ?_
        rintro e w5 ⟨rfl, hb⟩
        have T5 := Lib.hid (T4.out.call hb)
        clear hb
        go_wp2_with fail
        go_meet
        exact ⟨rfl, T5⟩
      · go_wp2_with fail
        clear d0 d1 d2 e0' e1 e2
        refine (rfinite_any b2 m2 c2 y2 q2 j2 IP.out.2.1 IP.out.2.2 true ((finB_of GY.out.2).2 i2') _ T4.out.y.row).mono ?_
        rintro e w5 ⟨rfl, hb⟩
        have T5 := Lib.hid (T4.out.call hb)
        clear hb
        obtain ⟨c0, c1', c2', f0, f1, f2⟩ := T5.out.x.box
        obtain ⟨d0, d1, d2, e0', e1, e2⟩ := T5.out.y.box
        go_wp2_with fail
        clear c0 c1' c2' f0 f1 f2 d0 d1 d2 e0' e1 e2
        refine (rgrows10 b1 m1 c1 y1 q1 j1 GY.out.1 b2 m2 c2 y2 q2 j2 GY.out.2 L h120 i1' i2' fb (by rw [HFB.out]; exact ⟨fun h => h.2.2, fun h => ⟨i1', i2', h⟩⟩) _ T5.out.x.row T5.out.y.row).mono ?_
        rintro e w6 ⟨rfl, hb⟩
        have T6 := Lib.hid (T5.out.call hb)
        clear hb
        go_wp2_with fail
        go_meet
        exact ⟨rfl, T6⟩
  case rest =>
    clear c0 c1' c2' f0 f1 f2 d0 d1 d2 e0' e1 e2 T3
    obtain ⟨rfl, T7⟩ := hcut
    obtain ⟨w7, rfl⟩ : ∃ u : World, u = wc := ⟨_, rfl⟩
    have HGI := Lib.hid (show ∀ i m k, GreatP (growI y2 q2 j2 L < growI y1 q1 j1 L) (waitI (eC y1 q1 j1) (eC y2 q2 j2)) (max m1 m2 + L) i m k → DevD (eC z1 p1 i1) (eC z2 p2 i2) i m k from fun i m k h => by
      have l1 := T7.out.x.row.len; have l2 := T7.out.y.row.len
      have k1 := GY.out.1; have k2 := GY.out.2
      have := k1.few; have := k2.few
      have := great_dev k1 k2 HM.out h120 (N := max m1 m2 + L) (by omega) (by omega) h
      rwa [HE.out.1, HE.out.2] at this)
    cases fb with
    | true =>
      obtain ⟨r0, r1, r2, g0, g1, g2⟩ := T7.out.res
      have HB := Lib.hid (show Below w.heap.size w (((w7.setCell ⟨w.heap.size + 2, 0, none⟩ (.bool true)).setCell ⟨w.heap.size + 2, 1, none⟩ (.int .i64 0)).setCell ⟨w.heap.size + 2, 2, none⟩ (.int .i64 0)) from below_set3 T7.out.below (by omega) _ _ _)
      go_wp2_with fail
      exact bodyPost_ret (v := (.tuple #[.agg #[.bool true, .int .i64 0, .int .i64 0], .int .i64 0])) (by simp [results, Try.results57, go_sem, r0, r1, r2]) rfl ⟨true, 0, 0, rfl, HB.out, HGI.out _ _ _ (.inl ⟨rfl, rfl, rfl, .inl (HFB.out.1 (by first | trivial | rfl)).2.2⟩)⟩
    | false =>
      obtain ⟨w8, hw⟩ : ∃ u, w7.alloc (.cells #[.bool false, .int .i64 0, .int .i64 0] 74) = u := ⟨_, rfl⟩
      have hz : Below w7.heap.size w7 w8 := by rw [← hw]; exact (Below.refl _ _).alloc (Nat.le_refl _) _
      have L0 := Lib.hid (show SoF w A b1 m1 c1 q1 j1 y1 b2 m2 c2 q2 j2 y2 (waitI (eC y1 q1 j1) (eC y2 q2 j2)) w7.heap.size 0 0 0 w8 from ⟨T7.out.call hz, by rw [← hw]; exact Cur3.new w7 _ _ _ _, by have := T7.out.y.box.lt; omega, most_zero _⟩)
      have HW8 := Lib.hid hw
      obtain ⟨N, hN⟩ : ∃ N, max m1 m2 + L = N := ⟨_, rfl⟩
      have HN := Lib.hid hN
      rw [hN] at HGI
      have HXF := Lib.hid (show (∀ x, b1 = some x → 1 ≤ m1 → x.block < w7.heap.size) ∧ ∀ x, b2 = some x → 1 ≤ m2 → x.block < w7.heap.size from ⟨T7.out.x.row.far, T7.out.y.row.far⟩)
      have NB := Lib.hid (show (m1 ≤ N ∧ m2 ≤ N ∧ N ≤ 520) ∧ y1.length = m1 from by
        have l1 := T7.out.x.row.len; have l2 := T7.out.y.row.len
        have := GY.out.1.few; have := GY.out.2.few
        omega)
      have hN5 : N ≤ 520 := NB.out.1.2.2
      clear hw hz hN
      go_upto_region 7 with fail
      try rw [HW8.out]
      obtain ⟨O, hO⟩ : ∃ O, w7.heap.size = O := ⟨_, rfl⟩
      rw [hO] at L0 HXF
      try rw [hO]
      clear hO T7 HW8
      go_wp2_with fail
      go_loopw [11] (fun s11 wx => ∃ t : Nat, s11 = .int .i64 t ∧ t ≤ N ∧ Hid (∃ m k, SoF w A b1 m1 c1 q1 j1 y1 b2 m2 c2 q2 j2 y2 (waitI (eC y1 q1 j1) (eC y2 q2 j2)) O m k t wx)) (fun s11 _ => N - (intOf s11).toNat)
      case atStart => exact ⟨0, by go_num, Nat.zero_le _, 0, 0, L0.out⟩
      case round =>
        clear L0
        obtain ⟨t, rfl, ht, HS⟩ := hrel
        obtain ⟨wk, rfl⟩ : ∃ u : World, u = wr := ⟨_, rfl⟩
        obtain ⟨m, k, hs⟩ := HS.out
        have S0 := Lib.hid hs
        clear hs HS
        obtain ⟨c0, c1', c2', f0, f1, f2⟩ := S0.out.r.x.box
        obtain ⟨d0, d1, d2, e0', e1, e2⟩ := S0.out.r.y.box
        go_wp2_with fail
        clear c0 c1' c2' f0 f1 f2 d0 d1 d2 e0' e1 e2
        refine (rwindow10 b1 m1 c1 y1 q1 j1 GY.out.1 b2 m2 c2 y2 q2 j2 GY.out.2 L N HN.out h120 _ S0.out.r.x.row S0.out.r.y.row).mono ?_
        rintro e w9 ⟨rfl, hb⟩
        have S1 := Lib.hid (S0.out.call hb)
        clear hb S0
        by_cases hlt : t < N
        · have hlti : (t : Int) < (N : Int) := by omega
          obtain ⟨v, hv⟩ : ∃ v, atC y1 q1 j1 t = v := ⟨_, rfl⟩
          have HV := Lib.hid hv
          have HVE := Lib.hid (show enc (eC y1 q1 j1 t) = v by rw [enc_eC]; exact hv)
          have HA := Lib.hid (asks_at GY.out.1 (show t ≤ 1000 by omega))
          clear hv
          obtain ⟨c0, c1', c2', f0, f1, f2⟩ := S1.out.r.x.box
          obtain ⟨d0, d1, d2, e0', e1, e2⟩ := S1.out.r.y.box
          go_upto_region 10 with fail
          clear c0 c1' c2' f0 f1 f2 d0 d1 d2 e0' e1 e2
          have S2 := Lib.hid (S1.out.call (Below.refl _ _).drew)
          refine wp_region_keeps (fun u => SoFS w A b1 m1 c1 q1 j1 y1 b2 m2 c2 q2 j2 y2 (waitI (eC y1 q1 j1) (eC y2 q2 j2)) O m k t u) 9 1 (by kernel_rfl) (by kernel_rfl) (sofs_of S2.out) (fun hHeld0 => ?_)
          refine wpAnyK_take (i := 0) (v := ?_) rfl (by kernel_rfl) (fun _ _ _ h => h) (Or.inl ⟨by rfl, ?_⟩) (by assumption) ?_
          rotate_left
          · (intro w hSw; (try dsimp only at hSw); go_simp; try with_reducible rfl)
          try simp only [Act.put, List.getElem_toArray, List.getElem_cons_zero, List.getElem_cons_succ, List.setIfInBounds_toArray, List.set_cons_zero, List.set_cons_succ]
          refine wpAnyK_take (i := 1) (v := ?_) rfl (by kernel_rfl) (fun _ _ _ h => h) (Or.inl ⟨by rfl, ?_⟩) (by assumption) ?_
          rotate_left
          · (intro w hSw; (try dsimp only at hSw); go_simp; try with_reducible rfl)
          try simp only [Act.put, List.getElem_toArray, List.getElem_cons_zero, List.getElem_cons_succ, List.setIfInBounds_toArray, List.set_cons_zero, List.set_cons_succ]
          refine wpAnyK_take (i := 2) (v := ?_) rfl (by kernel_rfl) (fun _ _ _ h => h) (Or.inl ⟨by rfl, ?_⟩) (by assumption) ?_
          rotate_left
          · (intro w hSw; (try dsimp only at hSw); go_simp; try with_reducible rfl)
          try simp only [Act.put, List.getElem_toArray, List.getElem_cons_zero, List.getElem_cons_succ, List.setIfInBounds_toArray, List.set_cons_zero, List.set_cons_succ]
          refine wpAnyK_step (i := 3) rfl (by kernel_rfl) (fun K hK => ?_)
          go_simp
          with_reducible refine (rat_at b1 m1 c1 y1 q1 j1 GY.out.1 t t rfl (by omega) v HV.out _ S2.out.r.x.row).mono ?_
          rintro e u3 ⟨rfl, hb⟩
          have S3 := Lib.hid (S2.out.call hb)
          clear hb
          refine hK.out _ _ (sofs_of S3.out) (fun hHeld1 => ?_)
          clear hK K hHeld0
          try simp only [Act.put, List.getElem_toArray, List.getElem_cons_zero, List.getElem_cons_succ, List.setIfInBounds_toArray, List.set_cons_zero, List.set_cons_succ]
          refine wpAnyK_step (i := 4) rfl (by kernel_rfl) (fun K hK => ?_)
          go_simp
          with_reducible refine (rfirst10 b2 m2 c2 y2 q2 j2 GY.out.2 (eC y1 q1 j1 t) HA.out v HVE.out _ S3.out.r.y.row).mono ?_
          rintro e u4 ⟨o, kf, rfl, hb, hF, hkf⟩
          have S4 := Lib.hid (S3.out.call hb)
          have HWT := Lib.hid (waitI_eq (a := eC y1 q1 j1) hF)
          clear hb hF
          refine hK.out _ _ (sofs_of S4.out) (fun hHeld2 => ?_)
          clear hK K hHeld1
          try simp only [Act.put, List.getElem_toArray, List.getElem_cons_zero, List.getElem_cons_succ, List.setIfInBounds_toArray, List.set_cons_zero, List.set_cons_succ]
          refine wpAnyK_take (i := 5) (v := ?_) rfl (by kernel_rfl) (fun _ _ _ h => h) (Or.inl ⟨by rfl, ?_⟩) (by assumption) ?_
          rotate_left
          · (intro w hSw; (try dsimp only at hSw); go_simp; try with_reducible rfl)
          try simp only [Act.put, List.getElem_toArray, List.getElem_cons_zero, List.getElem_cons_succ, List.setIfInBounds_toArray, List.set_cons_zero, List.set_cons_succ]
          refine wpAnyK_take (i := 6) (v := ?_) rfl (by kernel_rfl) (fun _ _ _ h => h) (Or.inl ⟨by rfl, ?_⟩) (by assumption) ?_
          rotate_left
          · (intro w hSw; (try dsimp only at hSw); go_simp; try with_reducible rfl)
          try simp only [Act.put, List.getElem_toArray, List.getElem_cons_zero, List.getElem_cons_succ, List.setIfInBounds_toArray, List.set_cons_zero, List.set_cons_succ]
          refine wpAnyK_take (i := 7) (v := ?_) rfl (by kernel_rfl) (fun _ _ _ h => h) (Or.inl ⟨by rfl, ?_⟩) (by assumption) ?_
          rotate_left
          · (intro w hSw; (try dsimp only at hSw); go_simp; try with_reducible rfl)
          try simp only [Act.put, List.getElem_toArray, List.getElem_cons_zero, List.getElem_cons_succ, List.setIfInBounds_toArray, List.set_cons_zero, List.set_cons_succ]
          refine wpAnyK_take (i := 8) (v := ?_) rfl (by kernel_rfl) (fun _ _ _ h => h) (Or.inl ⟨by rfl, ?_⟩) (by assumption) ?_
          rotate_left
          · (intro w hSw; (try dsimp only at hSw); go_simp; try with_reducible rfl)
          try simp only [Act.put, List.getElem_toArray, List.getElem_cons_zero, List.getElem_cons_succ, List.setIfInBounds_toArray, List.set_cons_zero, List.set_cons_succ]
          refine wpAnyK_done (by kernel_rfl) ?_
          simp only [List.drop_succ_cons, List.drop_zero]
          clear hHeld2
          cases o with
          | false =>
            obtain ⟨r0, r1, r2, g0, g1, g2⟩ := S4.out.r.res
            have HB := Lib.hid (show Below w.heap.size w (((u4.setCell ⟨w.heap.size + 2, 0, none⟩ (.bool true)).setCell ⟨w.heap.size + 2, 1, none⟩ (.int .i64 0)).setCell ⟨w.heap.size + 2, 2, none⟩ (.int .i64 0)) from below_set3 S4.out.r.below (by omega) _ _ _)
            go_wp2_with fail
            exact bodyPost_ret (v := (.tuple #[.agg #[.bool true, .int .i64 0, .int .i64 0], .int .i64 0])) (by simp [results, Try.results57, go_sem, r0, r1, r2]) rfl ⟨true, 0, 0, rfl, HB.out, HGI.out _ _ _ (.inl ⟨rfl, rfl, rfl, .inr ⟨t, hlt, HWT.out⟩⟩)⟩
          | true =>
            obtain ⟨c0, c1', c2', f0, f1, f2⟩ := S4.out.box
            obtain ⟨x, hx⟩ : ∃ x, (kf : Int) - (t : Int) = x := ⟨_, rfl⟩
            have hxw : IntKind.i64.wrap x = x := IntWalk.i64_in _ ⟨by omega, by omega⟩
            have HX := Lib.hid (show waitI (eC y1 q1 j1) (eC y2 q2 j2) t = x by rw [HWT.out, ← hx]; rfl)
            have HNI := Lib.hid (show ¬ waitI (eC y1 q1 j1) (eC y2 q2 j2) t = infV by rw [HX.out]; unfold infV; omega)
            by_cases hg : m < x
            · have hg2 : decide (m < x) = true := decide_eq_true hg
              have HN2 := Lib.hid (show SoF w A b1 m1 c1 q1 j1 y1 b2 m2 c2 q2 j2 y2 (waitI (eC y1 q1 j1) (eC y2 q2 j2)) O x t (t + 1) ((u4.setCell ⟨O, 1, none⟩ (.int .i64 x)).setCell ⟨O, 2, none⟩ (.int .i64 t)) from by
                have hlo := S4.out.lo
                have hlo2 := S4.out.r.lo
                refine ⟨dr_put S4.out.r hlo HXF.out _ _, cur3_put12 S4.out.box _ _, hlo, ?_⟩
                have := S4.out.most.more HNI.out (by rw [HX.out]; exact hg)
                rwa [HX.out] at this)
              go_wp2_with fail
              go_roundw
              case rel => exact ⟨t + 1, by go_num, by omega, x, t, HN2.out⟩
              case measure => simp [intOf]; omega
            · have hg2 : decide (m < x) = false := decide_eq_false hg
              have HN2 := Lib.hid (show SoF w A b1 m1 c1 q1 j1 y1 b2 m2 c2 q2 j2 y2 (waitI (eC y1 q1 j1) (eC y2 q2 j2)) O m k (t + 1) u4 from ⟨S4.out.r, S4.out.box, S4.out.lo, S4.out.most.same HNI.out (by rw [HX.out]; exact hg)⟩)
              go_wp2_with fail
              go_roundw
              case rel => exact ⟨t + 1, by go_num, by omega, m, k, HN2.out⟩
              case measure => simp [intOf]; omega
        · obtain rfl : t = N := by omega
          have hlti : ¬ (t : Int) < (t : Int) := by omega
          obtain ⟨c0, c1', c2', f0, f1, f2⟩ := S1.out.box
          obtain ⟨r0, r1, r2, g0, g1, g2⟩ := S1.out.r.res
          have hne : ¬ O = w.heap.size + 2 := by have := S1.out.lo; have := S1.out.r.lo; omega
          have hne2 : ¬ w.heap.size + 2 = O := by omega
          have HB := Lib.hid (show Below w.heap.size w (((w9.setCell ⟨w.heap.size + 2, 0, none⟩ (.bool false)).setCell ⟨w.heap.size + 2, 1, none⟩ (.int .i64 m)).setCell ⟨w.heap.size + 2, 2, none⟩ (.int .i64 k)) from below_set3 S1.out.r.below (by omega) _ _ _)
          have HF := Lib.hid (show DevD (eC z1 p1 i1) (eC z2 p2 i2) false m k from HGI.out _ _ _ (.inr ⟨rfl, not_fast GY.out.1 GY.out.2 h120 (fun h => by have := HFB.out.2 h; cases this) (by have := NB.out; omega) (fun t ht => (S1.out.most.2.1 t ht).1) (fun f1 f2 => wait_inf GY.out.1 f1 f2), S1.out.most⟩))
          go_wp2_with fail
          exact bodyPost_ret (v := (.tuple #[.agg #[.bool false, .int .i64 m, .int .i64 k], .int .i64 0])) (by simp [results, Try.results57, go_sem, r0, r1, r2]) rfl ⟨false, m, k, rfl, HB.out, HF.out⟩

end Go.Proofs.Ytjjaaknjdmijbaa

namespace Go.Proofs.Ytjjaaknjdmijbaa
open Go.RowKit
set_option linter.unusedSimpArgs false
set_option linter.unusedVariables false

set_option maxRecDepth 100000 in
set_option maxHeartbeats 6400000 in
theorem rabove10_lim (a1 : Option Addr) (n1 cap1 : Nat) (z1 : List Int) (p1 : Nat) (i1 : Int) (g1 : Good z1 p1 i1) (a2 : Option Addr) (n2 cap2 : Nat) (z2 : List Int) (p2 : Nat) (i2 : Int) (g2 : Good z2 p2 i2) (d : Nat) (hd1 : d ≤ 1) (L : Nat) (hL : LcmN z1 p1 i1 z2 p2 i2 L) (h120 : 120 < L) (w : World) (h1 : RowZ w a1 n1 cap1 z1) (h2 : RowZ w a2 n2 cap2 z2) :
    Calls Try.prog 131 #[curV a1 n1 cap1 p1 i1, curV a2 n2 cap2 p2 i2, .int .i64 (d : Int)] w (Says (.tuple #[.agg #[.bool false, .int .i64 0, .int .i64 0], .int .i64 3]) w) := by
  obtain ⟨W, hW⟩ : ∃ W, ((w.alloc (.cells #[.slice a1 n1 cap1, .int .i64 p1, .int .i64 i1] 24)).alloc (.cells #[.slice a2 n2 cap2, .int .i64 p2, .int .i64 i2] 24)).alloc (.cells #[.bool false, .int .i64 0, .int .i64 0] 74) = W := ⟨_, rfl⟩
  obtain ⟨t0, hsz⟩ := sv_start (p1 := p1) (i1 := i1) (p2 := p2) (i2 := i2) h1 h2 hW
  have T0 := Lib.hid t0
  have HSZ := Lib.hid hsz
  have HW := Lib.hid hW
  have G1 := Lib.hid g1
  have G2 := Lib.hid g2
  have HL := Lib.hid hL
  obtain ⟨l0, hl0⟩ : ∃ l : Int, l = if 120 < L then 0 else (L : Int) := ⟨_, rfl⟩
  obtain ⟨e0, he0⟩ : ∃ c : Int, c = if 120 < L then 3 else 0 := ⟨_, rfl⟩
  have HC := Lib.hid (And.intro hl0 he0)
  clear t0 hsz hW g1 g2 hL h1 h2 hl0 he0
  obtain ⟨c0, c1, c2, f0, f1, f2⟩ := T0.out.c1
  obtain ⟨d0, d1, d2, e0', e1, e2⟩ := T0.out.c2
  go_enter Try.func131, Try.ntmps131
  go_upto_region 1 with fail
  try rw [HW.out]
  go_wp2_with fail
  clear c0 c1 c2 f0 f1 f2 d0 d1 d2 e0' e1 e2
  refine (rpair_any a1 n1 cap1 z1 p1 i1 G1.out a2 n2 cap2 z2 p2 i2 G2.out L HL.out l0 e0 HC.out.1 HC.out.2 _ T0.out.r1 T0.out.r2).mono ?_
  rintro e v1 ⟨b1, m1, c1, y1, q1, j1, b2, m2, c2, y2, q2, j2, rfl, hb, hr1, hr2, hn1, hn2, hx1, hx2⟩
  obtain ⟨w3, hw⟩ : ∃ W, (v1.alloc (.cells #[.slice b1 m1 c1, .int .i64 q1, .int .i64 j1] 24)).alloc (.cells #[.slice b2 m2 c2, .int .i64 q2, .int .i64 j2] 24) = W := ⟨_, rfl⟩
  have hz1 : Below v1.heap.size v1 w3 := by rw [← hw]; exact ((Below.refl _ _).alloc (Nat.le_refl _) _).alloc (by simp) _
  have hz : Below W.heap.size W w3 := hb.trans (hz1.mono hb.size)
  have GY := Lib.hid (And.intro (hn1.good G1.out) (hn2.good G2.out))
  have HE := Lib.hid (And.intro (norm_E hn1 G1.out) (norm_E hn2 G2.out))
  have HM := Lib.hid (show Mult q1 q2 L from by
    obtain ⟨x1, r1, k1, x2, r2, k2, h1, h2, h3⟩ := HL.out
    obtain ⟨rfl, rfl, rfl⟩ := (h1.eform G1.out).unique (hn1.eform G1.out)
    obtain ⟨rfl, rfl, rfl⟩ := (h2.eform G2.out).unique (hn2.eform G2.out)
    exact (lcm_of (hn1.good G1.out).p1 (hn2.good G2.out).p1 h3).mult)
  have T3 := Lib.hid (show DR w v1.heap.size b1 m1 c1 q1 j1 y1 b2 m2 c2 q2 j2 y2 w3 from ⟨by rw [← hw]; exact (Bx.new hr1).under (box_below _ _), by
    rw [← hw]
    have := Bx.new (p := q2) (inc := j2) (hr2.under (box_below v1 (.cells #[.slice b1 m1 c1, .int .i64 q1, .int .i64 j1] 24)))
    simpa using this, T0.out.res.below hz, by have := hb.size; have := HSZ.out; omega, T0.out.below.trans (hz.mono T0.out.below.size)⟩)
  have X3 := Lib.hid (And.intro hx1 hx2)
  have HW3 := Lib.hid hw
  clear hb hr1 hr2 hn1 hn2 hx1 hx2 hw hz hz1
  go_upto_region 2 with fail
  try rw [HW3.out]
  obtain ⟨A, hA⟩ : ∃ A, v1.heap.size = A := ⟨_, rfl⟩
  rw [hA] at T3
  try rw [hA]
  clear hA HW3
  obtain ⟨el, ec⟩ := HC.out
  rw [if_pos h120] at el ec
  subst el ec
  obtain ⟨r0, r1, r2, g0, g1, g2⟩ := T3.out.res
  have HB := Lib.hid (show Below w.heap.size w (((w3.setCell ⟨w.heap.size + 2, 0, none⟩ (.bool false)).setCell ⟨w.heap.size + 2, 1, none⟩ (.int .i64 0)).setCell ⟨w.heap.size + 2, 2, none⟩ (.int .i64 0)) from below_set3 T3.out.below (by omega) _ _ _)
  clear h120
  go_wp2_with fail
  exact bodyPost_ret (v := (.tuple #[.agg #[.bool false, .int .i64 0, .int .i64 0], .int .i64 3])) (by simp [results, Try.results131, go_sem, r0, r1, r2]) rfl ⟨rfl, HB.out⟩

set_option maxRecDepth 100000 in
set_option maxHeartbeats 6400000 in
theorem rabove10_ok (a1 : Option Addr) (n1 cap1 : Nat) (z1 : List Int) (p1 : Nat) (i1 : Int) (g1 : Good z1 p1 i1) (a2 : Option Addr) (n2 cap2 : Nat) (z2 : List Int) (p2 : Nat) (i2 : Int) (g2 : Good z2 p2 i2) (d : Nat) (hd1 : d ≤ 1) (L : Nat) (hL : LcmN z1 p1 i1 z2 p2 i2 L) (h120 : L ≤ 120) (w : World) (h1 : RowZ w a1 n1 cap1 z1) (h2 : RowZ w a2 n2 cap2 z2) :
    Calls Try.prog 131 #[curV a1 n1 cap1 p1 i1, curV a2 n2 cap2 p2 i2, .int .i64 (d : Int)] w (GivesDev (DevB (fun t => eC z1 p1 i1 (t + d)) (eC z2 p2 i2)) w) := by
  obtain ⟨W, hW⟩ : ∃ W, ((w.alloc (.cells #[.slice a1 n1 cap1, .int .i64 p1, .int .i64 i1] 24)).alloc (.cells #[.slice a2 n2 cap2, .int .i64 p2, .int .i64 i2] 24)).alloc (.cells #[.bool false, .int .i64 0, .int .i64 0] 74) = W := ⟨_, rfl⟩
  obtain ⟨t0, hsz⟩ := sv_start (p1 := p1) (i1 := i1) (p2 := p2) (i2 := i2) h1 h2 hW
  have T0 := Lib.hid t0
  have HSZ := Lib.hid hsz
  have HW := Lib.hid hW
  have G1 := Lib.hid g1
  have G2 := Lib.hid g2
  have HL := Lib.hid hL
  obtain ⟨l0, hl0⟩ : ∃ l : Int, l = if 120 < L then 0 else (L : Int) := ⟨_, rfl⟩
  obtain ⟨e0, he0⟩ : ∃ c : Int, c = if 120 < L then 3 else 0 := ⟨_, rfl⟩
  have HC := Lib.hid (And.intro hl0 he0)
  clear t0 hsz hW g1 g2 hL h1 h2 hl0 he0
  obtain ⟨c0, c1, c2, f0, f1, f2⟩ := T0.out.c1
  obtain ⟨d0, d1, d2, e0', e1, e2⟩ := T0.out.c2
  go_enter Try.func131, Try.ntmps131
  go_upto_region 1 with fail
  try rw [HW.out]
  go_wp2_with fail
  clear c0 c1 c2 f0 f1 f2 d0 d1 d2 e0' e1 e2
  refine (rpair_any a1 n1 cap1 z1 p1 i1 G1.out a2 n2 cap2 z2 p2 i2 G2.out L HL.out l0 e0 HC.out.1 HC.out.2 _ T0.out.r1 T0.out.r2).mono ?_
  rintro e v1 ⟨b1, m1, c1, y1, q1, j1, b2, m2, c2, y2, q2, j2, rfl, hb, hr1, hr2, hn1, hn2, hx1, hx2⟩
  obtain ⟨w3, hw⟩ : ∃ W, (v1.alloc (.cells #[.slice b1 m1 c1, .int .i64 q1, .int .i64 j1] 24)).alloc (.cells #[.slice b2 m2 c2, .int .i64 q2, .int .i64 j2] 24) = W := ⟨_, rfl⟩
  have hz1 : Below v1.heap.size v1 w3 := by rw [← hw]; exact ((Below.refl _ _).alloc (Nat.le_refl _) _).alloc (by simp) _
  have hz : Below W.heap.size W w3 := hb.trans (hz1.mono hb.size)
  have GY := Lib.hid (And.intro (hn1.good G1.out) (hn2.good G2.out))
  have HE := Lib.hid (And.intro (norm_E hn1 G1.out) (norm_E hn2 G2.out))
  have HM := Lib.hid (show Mult q1 q2 L from by
    obtain ⟨x1, r1, k1, x2, r2, k2, h1, h2, h3⟩ := HL.out
    obtain ⟨rfl, rfl, rfl⟩ := (h1.eform G1.out).unique (hn1.eform G1.out)
    obtain ⟨rfl, rfl, rfl⟩ := (h2.eform G2.out).unique (hn2.eform G2.out)
    exact (lcm_of (hn1.good G1.out).p1 (hn2.good G2.out).p1 h3).mult)
  have T3 := Lib.hid (show DR w v1.heap.size b1 m1 c1 q1 j1 y1 b2 m2 c2 q2 j2 y2 w3 from ⟨by rw [← hw]; exact (Bx.new hr1).under (box_below _ _), by
    rw [← hw]
    have := Bx.new (p := q2) (inc := j2) (hr2.under (box_below v1 (.cells #[.slice b1 m1 c1, .int .i64 q1, .int .i64 j1] 24)))
    simpa using this, T0.out.res.below hz, by have := hb.size; have := HSZ.out; omega, T0.out.below.trans (hz.mono T0.out.below.size)⟩)
  have X3 := Lib.hid (And.intro hx1 hx2)
  have HW3 := Lib.hid hw
  clear hb hr1 hr2 hn1 hn2 hx1 hx2 hw hz hz1
  go_upto_region 2 with fail
  try rw [HW3.out]
  obtain ⟨A, hA⟩ : ∃ A, v1.heap.size = A := ⟨_, rfl⟩
  rw [hA] at T3
  try rw [hA]
  clear hA HW3
  obtain ⟨el, ec⟩ := HC.out
  rw [if_neg (show ¬ 120 < L by omega)] at el ec
  subst el ec
  obtain ⟨fb, hfb⟩ : ∃ b : Bool, b = true ↔ (¬ InfC y1 ∧ ¬ InfC y2 ∧ growI y2 q2 j2 L < growI y1 q1 j1 L) := by
    by_cases h : ¬ InfC y1 ∧ ¬ InfC y2 ∧ growI y2 q2 j2 L < growI y1 q1 j1 L
    · exact ⟨true, fun _ => h, fun _ => rfl⟩
    · exact ⟨false, fun q => (by cases q), fun k => absurd k h⟩
  have HFB := Lib.hid hfb
  have IP := Lib.hid (show (In64 (q1 : Int) ∧ In64 j1) ∧ In64 (q2 : Int) ∧ In64 j2 from by
    have k1 := GY.out.1; have k2 := GY.out.2
    have := k1.p2; have := k1.i0; have := k1.i1; have := k2.p2; have := k2.i0; have := k2.i1
    exact ⟨⟨⟨by omega, by omega⟩, by omega, by omega⟩, ⟨by omega, by omega⟩, by omega, by omega⟩)
  clear hfb
  obtain ⟨c0, c1', c2', f0, f1, f2⟩ := T3.out.x.box
  obtain ⟨d0, d1, d2, e0', e1, e2⟩ := T3.out.y.box
  go_upto_region 4 with fail
  go_cut [39] (fun s39 wx => s39 = .bool fb ∧ Hid (DR w A b1 m1 c1 q1 j1 y1 b2 m2 c2 q2 j2 y2 wx))
  case first =>
    by_cases i1' : InfC y1
    · obtain rfl : fb = false := by
        cases fb with
        | false => rfl
        | true => exact absurd i1' (HFB.out.1 rfl).1
      go_wp2_with fail
      refine (rfinite_any b1 m1 c1 y1 q1 j1 IP.out.1.1 IP.out.1.2 false (finB_inf i1') _ T3.out.x.row).mono ?_
      rintro e w4 ⟨rfl, hb⟩
      have T4 := Lib.hid (T3.out.call hb)
      clear hb
      go_wp2_with fail
      go_meet
      exact ⟨rfl, T4⟩
    · go_wp2_with fail
      clear c0 c1' c2' f0 f1 f2 d0 d1 d2 e0' e1 e2
      refine (rfinite_any b1 m1 c1 y1 q1 j1 IP.out.1.1 IP.out.1.2 true ((finB_of GY.out.1).2 i1') _ T3.out.x.row).mono ?_
      rintro e w4 ⟨rfl, hb⟩
      have T4 := Lib.hid (T3.out.call hb)
      clear hb
      obtain ⟨d0, d1, d2, e0', e1, e2⟩ := T4.out.y.box
      by_cases i2' : InfC y2
      · obtain rfl : fb = false := by
          cases fb with
          | false => rfl
          | true => exact absurd i2' (HFB.out.1 rfl).2.1
        go_wp2_with fail
        refine (rfinite_any b2 m2 c2 y2 q2 j2 IP.out.2.1 IP.out.2.2 false (finB_inf i2') _ T4.out.y.row).mono ?_
        rintro e w5 ⟨rfl, hb⟩
        have T5 := Lib.hid (T4.out.call hb)
        clear hb
        go_wp2_with fail
        go_meet
        exact ⟨rfl, T5⟩
      · go_wp2_with fail
        clear d0 d1 d2 e0' e1 e2
        refine (rfinite_any b2 m2 c2 y2 q2 j2 IP.out.2.1 IP.out.2.2 true ((finB_of GY.out.2).2 i2') _ T4.out.y.row).mono ?_
        rintro e w5 ⟨rfl, hb⟩
        have T5 := Lib.hid (T4.out.call hb)
        clear hb
        obtain ⟨c0, c1', c2', f0, f1, f2⟩ := T5.out.x.box
        obtain ⟨d0, d1, d2, e0', e1, e2⟩ := T5.out.y.box
        go_wp2_with fail
        clear c0 c1' c2' f0 f1 f2 d0 d1 d2 e0' e1 e2
        refine (rgrows10 b1 m1 c1 y1 q1 j1 GY.out.1 b2 m2 c2 y2 q2 j2 GY.out.2 L h120 i1' i2' fb (by rw [HFB.out]; exact ⟨fun h => h.2.2, fun h => ⟨i1', i2', h⟩⟩) _ T5.out.x.row T5.out.y.row).mono ?_
        rintro e w6 ⟨rfl, hb⟩
        have T6 := Lib.hid (T5.out.call hb)
        clear hb
        go_wp2_with fail
        go_meet
        exact ⟨rfl, T6⟩
  case rest =>
    clear c0 c1' c2' f0 f1 f2 d0 d1 d2 e0' e1 e2 T3
    obtain ⟨rfl, T7⟩ := hcut
    obtain ⟨w7, rfl⟩ : ∃ u : World, u = wc := ⟨_, rfl⟩
    have HGI := Lib.hid (show ∀ i m k, GreatP (growI y2 q2 j2 L < growI y1 q1 j1 L) (gapI (fun t => eC y1 q1 j1 (t + d)) (eC y2 q2 j2)) (max m1 m2 + L) i m k → DevB (fun t => eC z1 p1 i1 (t + d)) (eC z2 p2 i2) i m k from fun i m k h => by
      have l1 := T7.out.x.row.len; have l2 := T7.out.y.row.len
      have k1 := GY.out.1; have k2 := GY.out.2
      have := k1.few; have := k2.few
      have := great_gap k1 k2 hd1 HM.out h120 (N := max m1 m2 + L) (by omega) (by omega) h
      rwa [HE.out.1, HE.out.2] at this)
    cases fb with
    | true =>
      obtain ⟨r0, r1, r2, g0, g1, g2⟩ := T7.out.res
      have HB := Lib.hid (show Below w.heap.size w (((w7.setCell ⟨w.heap.size + 2, 0, none⟩ (.bool true)).setCell ⟨w.heap.size + 2, 1, none⟩ (.int .i64 0)).setCell ⟨w.heap.size + 2, 2, none⟩ (.int .i64 0)) from below_set3 T7.out.below (by omega) _ _ _)
      go_wp2_with fail
      exact bodyPost_ret (v := (.tuple #[.agg #[.bool true, .int .i64 0, .int .i64 0], .int .i64 0])) (by simp [results, Try.results131, go_sem, r0, r1, r2]) rfl ⟨true, 0, 0, rfl, HB.out, HGI.out _ _ _ (.inl ⟨rfl, rfl, rfl, .inl (HFB.out.1 (by first | trivial | rfl)).2.2⟩)⟩
    | false =>
      obtain ⟨w8, hw⟩ : ∃ u, w7.alloc (.cells #[.bool false, .int .i64 0, .int .i64 0] 74) = u := ⟨_, rfl⟩
      have hz : Below w7.heap.size w7 w8 := by rw [← hw]; exact (Below.refl _ _).alloc (Nat.le_refl _) _
      have L0 := Lib.hid (show SoF w A b1 m1 c1 q1 j1 y1 b2 m2 c2 q2 j2 y2 (gapI (fun t => eC y1 q1 j1 (t + d)) (eC y2 q2 j2)) w7.heap.size 0 0 0 w8 from ⟨T7.out.call hz, by rw [← hw]; exact Cur3.new w7 _ _ _ _, by have := T7.out.y.box.lt; omega, most_zero _⟩)
      have HW8 := Lib.hid hw
      obtain ⟨N, hN⟩ : ∃ N, max m1 m2 + L = N := ⟨_, rfl⟩
      have HN := Lib.hid hN
      rw [hN] at HGI
      have HXF := Lib.hid (show (∀ x, b1 = some x → 1 ≤ m1 → x.block < w7.heap.size) ∧ ∀ x, b2 = some x → 1 ≤ m2 → x.block < w7.heap.size from ⟨T7.out.x.row.far, T7.out.y.row.far⟩)
      have NB := Lib.hid (show (m1 ≤ N ∧ m2 ≤ N ∧ N ≤ 520) ∧ y1.length = m1 from by
        have l1 := T7.out.x.row.len; have l2 := T7.out.y.row.len
        have := GY.out.1.few; have := GY.out.2.few
        omega)
      have hN5 : N ≤ 520 := NB.out.1.2.2
      clear hw hz hN
      go_upto_region 7 with fail
      try rw [HW8.out]
      obtain ⟨O, hO⟩ : ∃ O, w7.heap.size = O := ⟨_, rfl⟩
      rw [hO] at L0 HXF
      try rw [hO]
      clear hO T7 HW8
      go_wp2_with fail
      go_loopw [13] (fun s13 wx => ∃ t : Nat, s13 = .int .i64 t ∧ t ≤ N ∧ Hid (∃ m k, SoF w A b1 m1 c1 q1 j1 y1 b2 m2 c2 q2 j2 y2 (gapI (fun t => eC y1 q1 j1 (t + d)) (eC y2 q2 j2)) O m k t wx)) (fun s13 _ => N - (intOf s13).toNat)
      case atStart => exact ⟨0, by go_num, Nat.zero_le _, 0, 0, L0.out⟩
      case round =>
        clear L0
        obtain ⟨t, rfl, ht, HS⟩ := hrel
        obtain ⟨wk, rfl⟩ : ∃ u : World, u = wr := ⟨_, rfl⟩
        obtain ⟨m, k, hs⟩ := HS.out
        have S0 := Lib.hid hs
        clear hs HS
        obtain ⟨c0, c1', c2', f0, f1, f2⟩ := S0.out.r.x.box
        obtain ⟨d0, d1, d2, e0', e1, e2⟩ := S0.out.r.y.box
        go_wp2_with fail
        clear c0 c1' c2' f0 f1 f2 d0 d1 d2 e0' e1 e2
        refine (rwindow10 b1 m1 c1 y1 q1 j1 GY.out.1 b2 m2 c2 y2 q2 j2 GY.out.2 L N HN.out h120 _ S0.out.r.x.row S0.out.r.y.row).mono ?_
        rintro e w9 ⟨rfl, hb⟩
        have S1 := Lib.hid (S0.out.call hb)
        clear hb S0
        by_cases hlt : t < N
        · have hlti : (t : Int) < (N : Int) := by omega
          obtain ⟨td, htd⟩ : ∃ td, t + d = td := ⟨_, rfl⟩
          have htdi : (t : Int) + (d : Int) = (td : Int) := by omega
          have htdw : IntKind.i64.wrap (td : Int) = (td : Int) := IntWalk.i64_in _ ⟨by omega, by omega⟩
          obtain ⟨v1, hv1⟩ : ∃ v, atC y1 q1 j1 td = v := ⟨_, rfl⟩
          obtain ⟨v2, hv2⟩ : ∃ v, atC y2 q2 j2 t = v := ⟨_, rfl⟩
          have HV := Lib.hid (And.intro hv1 hv2)
          have HG := Lib.hid (show (if v2 = infV then 0 else if v1 = infV then infV else v1 - v2) = gapI (fun t => eC y1 q1 j1 (t + d)) (eC y2 q2 j2) t from by
            rw [← hv1, ← hv2, ← htd]
            exact gap_enc GY.out.1 GY.out.2 (show t + d ≤ 1048576 by omega) (show t ≤ 1048576 by omega))
          have B1 : v1 = 4611686018427387904 ∨ (0 ≤ v1 ∧ v1 ≤ 1125899906842624) := by
            rcases eC_cases GY.out.1 (t := td) (by omega) with ⟨_, h⟩ | ⟨x, _, h, h2, h3⟩
            · left; rw [← hv1]; exact h
            · right; rw [← hv1, h]; omega
          have B2 : v2 = 4611686018427387904 ∨ (0 ≤ v2 ∧ v2 ≤ 1125899906842624) := by
            rcases eC_cases GY.out.2 (t := t) (by omega) with ⟨_, h⟩ | ⟨x, _, h, h2, h3⟩
            · left; rw [← hv2]; exact h
            · right; rw [← hv2, h]; omega
          clear hv1 hv2 htd
          obtain ⟨c0, c1', c2', f0, f1, f2⟩ := S1.out.r.x.box
          obtain ⟨d0, d1, d2, e0', e1, e2⟩ := S1.out.r.y.box
          go_upto_region 10 with fail
          clear c0 c1' c2' f0 f1 f2 d0 d1 d2 e0' e1 e2
          have S2 := Lib.hid (S1.out.call (Below.refl _ _).drew)
          refine wp_region_keeps (fun u => SoFS w A b1 m1 c1 q1 j1 y1 b2 m2 c2 q2 j2 y2 (gapI (fun t => eC y1 q1 j1 (t + d)) (eC y2 q2 j2)) O m k t u) 9 1 (by kernel_rfl) (by kernel_rfl) (sofs_of S2.out) (fun hHeld0 => ?_)
          refine wpAnyK_take (i := 0) (v := ?_) rfl (by kernel_rfl) (fun _ _ _ h => h) (Or.inl ⟨by rfl, ?_⟩) (by assumption) ?_
          rotate_left
          · (intro w hSw; (try dsimp only at hSw); go_simp; try with_reducible rfl)
          try simp only [Act.put, List.getElem_toArray, List.getElem_cons_zero, List.getElem_cons_succ, List.setIfInBounds_toArray, List.set_cons_zero, List.set_cons_succ]
          refine wpAnyK_take (i := 1) (v := ?_) rfl (by kernel_rfl) (fun _ _ _ h => h) (Or.inl ⟨by rfl, ?_⟩) (by assumption) ?_
          rotate_left
          · (intro w hSw; (try dsimp only at hSw); go_simp; try with_reducible rfl)
          try simp only [Act.put, List.getElem_toArray, List.getElem_cons_zero, List.getElem_cons_succ, List.setIfInBounds_toArray, List.set_cons_zero, List.set_cons_succ]
          refine wpAnyK_take (i := 2) (v := ?_) rfl (by kernel_rfl) (fun _ _ _ h => h) (Or.inl ⟨by rfl, ?_⟩) (by assumption) ?_
          rotate_left
          · (intro w hSw; (try dsimp only at hSw); go_simp; try with_reducible rfl)
          try simp only [Act.put, List.getElem_toArray, List.getElem_cons_zero, List.getElem_cons_succ, List.setIfInBounds_toArray, List.set_cons_zero, List.set_cons_succ]
          refine wpAnyK_take (i := 3) (v := ?_) rfl (by kernel_rfl) (fun _ _ _ h => h) (Or.inl ⟨by rfl, ?_⟩) (by assumption) ?_
          rotate_left
          · (intro w hSw; (try dsimp only at hSw); go_simp; try with_reducible rfl)
          try simp only [Act.put, List.getElem_toArray, List.getElem_cons_zero, List.getElem_cons_succ, List.setIfInBounds_toArray, List.set_cons_zero, List.set_cons_succ]
          refine wpAnyK_take (i := 5) (v := ?_) rfl (by kernel_rfl) (fun _ _ _ h => h) (Or.inl ⟨by rfl, ?_⟩) (by assumption) ?_
          rotate_left
          · (intro w hSw; (try dsimp only at hSw); go_simp; try with_reducible rfl)
          try simp only [Act.put, List.getElem_toArray, List.getElem_cons_zero, List.getElem_cons_succ, List.setIfInBounds_toArray, List.set_cons_zero, List.set_cons_succ]
          refine wpAnyK_take (i := 6) (v := ?_) rfl (by kernel_rfl) (fun _ _ _ h => h) (Or.inl ⟨by rfl, ?_⟩) (by assumption) ?_
          rotate_left
          · (intro w hSw; (try dsimp only at hSw); go_simp; try with_reducible rfl)
          try simp only [Act.put, List.getElem_toArray, List.getElem_cons_zero, List.getElem_cons_succ, List.setIfInBounds_toArray, List.set_cons_zero, List.set_cons_succ]
          refine wpAnyK_step (i := 4) rfl (by kernel_rfl) (fun K hK => ?_)
          go_simp
          with_reducible refine (rat_at b1 m1 c1 y1 q1 j1 GY.out.1 td td rfl (by omega) v1 HV.out.1 _ S2.out.r.x.row).mono ?_
          rintro e u3 ⟨rfl, hb⟩
          have S3 := Lib.hid (S2.out.call hb)
          clear hb
          refine hK.out _ _ (sofs_of S3.out) (fun hHeld1 => ?_)
          clear hK K hHeld0
          try simp only [Act.put, List.getElem_toArray, List.getElem_cons_zero, List.getElem_cons_succ, List.setIfInBounds_toArray, List.set_cons_zero, List.set_cons_succ]
          refine wpAnyK_step (i := 7) rfl (by kernel_rfl) (fun K hK => ?_)
          go_simp
          with_reducible refine (rat_at b2 m2 c2 y2 q2 j2 GY.out.2 t t rfl (by omega) v2 HV.out.2 _ S3.out.r.y.row).mono ?_
          rintro e u4 ⟨rfl, hb⟩
          have S4 := Lib.hid (S3.out.call hb)
          clear hb
          refine hK.out _ _ (sofs_of S4.out) (fun hHeld2 => ?_)
          clear hK K hHeld1
          try simp only [Act.put, List.getElem_toArray, List.getElem_cons_zero, List.getElem_cons_succ, List.setIfInBounds_toArray, List.set_cons_zero, List.set_cons_succ]
          refine wpAnyK_take (i := 8) (v := ?_) rfl (by kernel_rfl) (fun _ _ _ h => h) (Or.inl ⟨by rfl, ?_⟩) (by assumption) ?_
          rotate_left
          · (intro w hSw; (try dsimp only at hSw); go_simp; try with_reducible rfl)
          try simp only [Act.put, List.getElem_toArray, List.getElem_cons_zero, List.getElem_cons_succ, List.setIfInBounds_toArray, List.set_cons_zero, List.set_cons_succ]
          refine wpAnyK_done (by kernel_rfl) ?_
          simp only [List.drop_succ_cons, List.drop_zero]
          clear hHeld2
          by_cases hi2 : v2 = 4611686018427387904
          · have t1 : (v2 == 4611686018427387904) = true := by simpa using hi2
            have HX := Lib.hid (show gapI (fun t => eC y1 q1 j1 (t + d)) (eC y2 q2 j2) t = 0 by rw [← HG.out, if_pos (show v2 = infV from hi2)])
            have HN2 := Lib.hid (show SoF w A b1 m1 c1 q1 j1 y1 b2 m2 c2 q2 j2 y2 (gapI (fun t => eC y1 q1 j1 (t + d)) (eC y2 q2 j2)) O m k (t + 1) u4 from ⟨S4.out.r, S4.out.box, S4.out.lo, S4.out.most.same (by rw [HX.out]; decide) (by rw [HX.out]; have := S4.out.most.1; omega)⟩)
            clear hi2
            go_wp2_with fail
            go_roundw
            case rel => exact ⟨t + 1, by go_num, by omega, m, k, HN2.out⟩
            case measure => simp [intOf]; omega
          · have t1 : (v2 == 4611686018427387904) = false := by simpa using hi2
            by_cases hi1 : v1 = 4611686018427387904
            · have t2 : (v1 == 4611686018427387904) = true := by simpa using hi1
              have HX := Lib.hid (show gapI (fun t => eC y1 q1 j1 (t + d)) (eC y2 q2 j2) t = infV by rw [← HG.out, if_neg (show ¬ v2 = infV from hi2), if_pos (show v1 = infV from hi1)])
              obtain ⟨r0, r1, r2, g0, g1, g2⟩ := S4.out.r.res
              have HB := Lib.hid (show Below w.heap.size w (((u4.setCell ⟨w.heap.size + 2, 0, none⟩ (.bool true)).setCell ⟨w.heap.size + 2, 1, none⟩ (.int .i64 0)).setCell ⟨w.heap.size + 2, 2, none⟩ (.int .i64 0)) from below_set3 S4.out.r.below (by omega) _ _ _)
              clear hi1 hi2
              go_wp2_with fail
              exact bodyPost_ret (v := (.tuple #[.agg #[.bool true, .int .i64 0, .int .i64 0], .int .i64 0])) (by simp [results, Try.results131, go_sem, r0, r1, r2]) rfl ⟨true, 0, 0, rfl, HB.out, HGI.out _ _ _ (.inl ⟨rfl, rfl, rfl, .inr ⟨t, hlt, HX.out⟩⟩)⟩
            · have t2 : (v1 == 4611686018427387904) = false := by simpa using hi1
              obtain ⟨x, hx⟩ : ∃ x, v1 - v2 = x := ⟨_, rfl⟩
              have HX := Lib.hid (show gapI (fun t => eC y1 q1 j1 (t + d)) (eC y2 q2 j2) t = x by rw [← HG.out, if_neg (show ¬ v2 = infV from hi2), if_neg (show ¬ v1 = infV from hi1), hx])
              have hxb : -1125899906842624 ≤ x ∧ x ≤ 1125899906842624 := by omega
              have hxw : IntKind.i64.wrap x = x := IntWalk.i64_in _ ⟨by omega, by omega⟩
              have HNI := Lib.hid (show ¬ gapI (fun t => eC y1 q1 j1 (t + d)) (eC y2 q2 j2) t = infV by rw [HX.out]; unfold infV; omega)
              obtain ⟨c0, c1', c2', f0, f1, f2⟩ := S4.out.box
              clear hi1 hi2 B1 B2 hxb
              by_cases hg : m < x
              · have hg2 : decide (m < x) = true := decide_eq_true hg
                have HN2 := Lib.hid (show SoF w A b1 m1 c1 q1 j1 y1 b2 m2 c2 q2 j2 y2 (gapI (fun t => eC y1 q1 j1 (t + d)) (eC y2 q2 j2)) O x t (t + 1) ((u4.setCell ⟨O, 1, none⟩ (.int .i64 x)).setCell ⟨O, 2, none⟩ (.int .i64 t)) from by
                  have hlo := S4.out.lo
                  have hlo2 := S4.out.r.lo
                  refine ⟨dr_put S4.out.r hlo HXF.out _ _, cur3_put12 S4.out.box _ _, hlo, ?_⟩
                  have := S4.out.most.more HNI.out (by rw [HX.out]; exact hg)
                  rwa [HX.out] at this)
                go_wp2_with fail
                go_roundw
                case rel => exact ⟨t + 1, by go_num, by omega, x, t, HN2.out⟩
                case measure => simp [intOf]; omega
              · have hg2 : decide (m < x) = false := decide_eq_false hg
                have HN2 := Lib.hid (show SoF w A b1 m1 c1 q1 j1 y1 b2 m2 c2 q2 j2 y2 (gapI (fun t => eC y1 q1 j1 (t + d)) (eC y2 q2 j2)) O m k (t + 1) u4 from ⟨S4.out.r, S4.out.box, S4.out.lo, S4.out.most.same HNI.out (by rw [HX.out]; exact hg)⟩)
                go_wp2_with fail
                go_roundw
                case rel => exact ⟨t + 1, by go_num, by omega, m, k, HN2.out⟩
                case measure => simp [intOf]; omega
        · obtain rfl : t = N := by omega
          have hlti : ¬ (t : Int) < (t : Int) := by omega
          obtain ⟨c0, c1', c2', f0, f1, f2⟩ := S1.out.box
          obtain ⟨r0, r1, r2, g0, g1, g2⟩ := S1.out.r.res
          have hne : ¬ O = w.heap.size + 2 := by have := S1.out.lo; have := S1.out.r.lo; omega
          have hne2 : ¬ w.heap.size + 2 = O := by omega
          have HB := Lib.hid (show Below w.heap.size w (((w9.setCell ⟨w.heap.size + 2, 0, none⟩ (.bool false)).setCell ⟨w.heap.size + 2, 1, none⟩ (.int .i64 m)).setCell ⟨w.heap.size + 2, 2, none⟩ (.int .i64 k)) from below_set3 S1.out.r.below (by omega) _ _ _)
          have HF := Lib.hid (show DevB (fun t => eC z1 p1 i1 (t + d)) (eC z2 p2 i2) false m k from HGI.out _ _ _ (.inr ⟨rfl, not_fast GY.out.1 GY.out.2 h120 (fun h => by have := HFB.out.2 h; cases this) (by have := NB.out; omega) (fun t ht => (S1.out.most.2.1 t ht).1) (fun f1 f2 => gap_inf (eC_fin f2 _ _ _) (eC_late GY.out.1 f1 (by omega))), S1.out.most⟩))
          go_wp2_with fail
          exact bodyPost_ret (v := (.tuple #[.agg #[.bool false, .int .i64 m, .int .i64 k], .int .i64 0])) (by simp [results, Try.results131, go_sem, r0, r1, r2]) rfl ⟨false, m, k, rfl, HB.out, HF.out⟩

set_option maxRecDepth 100000 in
set_option maxHeartbeats 3200000 in
theorem rbacklog10_of (a1 : Option Addr) (n1 cap1 : Nat) (z1 : List Int) (p1 i1 : Int) (a2 : Option Addr) (n2 cap2 : Nat) (z2 : List Int) (p2 i2 : Int) (i : Bool) (m k c : Int) (w : World) (h1 : RowZ w a1 n1 cap1 z1) (h2 : RowZ w a2 n2 cap2 z2) (hC : ∀ u, RowZ u a1 n1 cap1 z1 → RowZ u a2 n2 cap2 z2 → Calls Try.prog 131 #[curV a1 n1 cap1 p1 i1, curV a2 n2 cap2 p2 i2, .int .i64 0] u (Says (.tuple #[.agg #[.bool i, .int .i64 m, .int .i64 k], .int .i64 c]) u)) :
    Calls Try.prog 59 #[curV a1 n1 cap1 p1 i1, curV a2 n2 cap2 p2 i2] w (Says (.tuple #[.agg #[.bool i, .int .i64 m, .int .i64 k], .int .i64 c]) w) := by
  obtain ⟨W, hW⟩ : ∃ W, ((w.alloc (.cells #[.slice a1 n1 cap1, .int .i64 p1, .int .i64 i1] 24)).alloc (.cells #[.slice a2 n2 cap2, .int .i64 p2, .int .i64 i2] 24)).alloc (.cells #[.bool false, .int .i64 0, .int .i64 0] 74) = W := ⟨_, rfl⟩
  have hB : Below w.heap.size w W := by rw [← hW]; exact (((Below.refl _ _).alloc (Nat.le_refl _) _).alloc (by simp) _).alloc (by simp; omega) _
  have k1 : Cur3 W w.heap.size (.slice a1 n1 cap1) (.int .i64 p1) (.int .i64 i1) := by rw [← hW]; exact ((Cur3.new w _ _ _ _).alloc _).alloc _
  have k2 : Cur3 W (w.heap.size + 1) (.slice a2 n2 cap2) (.int .i64 p2) (.int .i64 i2) := by rw [← hW]; exact (Cur3.new2 w _ _ _ _ _).alloc _
  have k3 : Cur3 W (w.heap.size + 2) (.bool false) (.int .i64 0) (.int .i64 0) := by
    rw [← hW]
    have := Cur3.new ((w.alloc (.cells #[.slice a1 n1 cap1, .int .i64 p1, .int .i64 i1] 24)).alloc (.cells #[.slice a2 n2 cap2, .int .i64 p2, .int .i64 i2] 24)) (.bool false) (.int .i64 0) (.int .i64 0) 74
    simpa using this
  have K3 := Lib.hid k3
  have HB := Lib.hid hB
  have HR := Lib.hid (And.intro (h1.under hB) (h2.under hB))
  have HC := Lib.hid hC
  have HW := Lib.hid hW
  obtain ⟨c0, c1, c2, f0, f1, f2⟩ := k1
  obtain ⟨d0, d1, d2, e0, e1, e2⟩ := k2
  clear hW hB k3 hC h1 h2
  go_enter Try.func59, Try.ntmps59
  go_upto_region 1 with fail
  try rw [HW.out]
  go_wp2_with fail
  clear c0 c1 c2 f0 f1 f2 d0 d1 d2 e0 e1 e2
  refine (HC.out _ HR.out.1 HR.out.2).mono ?_
  rintro e w1 ⟨rfl, hb⟩
  have HB1 := Lib.hid (HB.out.trans (hb.mono HB.out.size))
  obtain ⟨r0, r1, r2, g0, g1, g2⟩ := K3.out.below hb
  have HB2 := Lib.hid (show Below w.heap.size w (((w1.setCell ⟨w.heap.size + 2, 0, none⟩ (.bool i)).setCell ⟨w.heap.size + 2, 1, none⟩ (.int .i64 m)).setCell ⟨w.heap.size + 2, 2, none⟩ (.int .i64 k)) from below_set3 HB1.out (by omega) _ _ _)
  clear hb
  go_wp2_with fail
  exact bodyPost_ret (v := .tuple #[.agg #[.bool i, .int .i64 m, .int .i64 k], .int .i64 c]) (by simp [results, Try.results59, go_sem, r0, r1, r2]) rfl ⟨rfl, HB2.out⟩

set_option maxRecDepth 100000 in
set_option maxHeartbeats 3200000 in
theorem rpeak10_of (a1 : Option Addr) (n1 cap1 : Nat) (z1 : List Int) (p1 i1 : Int) (a2 : Option Addr) (n2 cap2 : Nat) (z2 : List Int) (p2 i2 : Int) (i : Bool) (m k c : Int) (w : World) (h1 : RowZ w a1 n1 cap1 z1) (h2 : RowZ w a2 n2 cap2 z2) (hC : ∀ u, RowZ u a1 n1 cap1 z1 → RowZ u a2 n2 cap2 z2 → Calls Try.prog 131 #[curV a1 n1 cap1 p1 i1, curV a2 n2 cap2 p2 i2, .int .i64 1] u (Says (.tuple #[.agg #[.bool i, .int .i64 m, .int .i64 k], .int .i64 c]) u)) :
    Calls Try.prog 61 #[curV a1 n1 cap1 p1 i1, curV a2 n2 cap2 p2 i2] w (Says (.tuple #[.agg #[.bool i, .int .i64 m, .int .i64 k], .int .i64 c]) w) := by
  obtain ⟨W, hW⟩ : ∃ W, ((w.alloc (.cells #[.slice a1 n1 cap1, .int .i64 p1, .int .i64 i1] 24)).alloc (.cells #[.slice a2 n2 cap2, .int .i64 p2, .int .i64 i2] 24)).alloc (.cells #[.bool false, .int .i64 0, .int .i64 0] 74) = W := ⟨_, rfl⟩
  have hB : Below w.heap.size w W := by rw [← hW]; exact (((Below.refl _ _).alloc (Nat.le_refl _) _).alloc (by simp) _).alloc (by simp; omega) _
  have k1 : Cur3 W w.heap.size (.slice a1 n1 cap1) (.int .i64 p1) (.int .i64 i1) := by rw [← hW]; exact ((Cur3.new w _ _ _ _).alloc _).alloc _
  have k2 : Cur3 W (w.heap.size + 1) (.slice a2 n2 cap2) (.int .i64 p2) (.int .i64 i2) := by rw [← hW]; exact (Cur3.new2 w _ _ _ _ _).alloc _
  have k3 : Cur3 W (w.heap.size + 2) (.bool false) (.int .i64 0) (.int .i64 0) := by
    rw [← hW]
    have := Cur3.new ((w.alloc (.cells #[.slice a1 n1 cap1, .int .i64 p1, .int .i64 i1] 24)).alloc (.cells #[.slice a2 n2 cap2, .int .i64 p2, .int .i64 i2] 24)) (.bool false) (.int .i64 0) (.int .i64 0) 74
    simpa using this
  have K3 := Lib.hid k3
  have HB := Lib.hid hB
  have HR := Lib.hid (And.intro (h1.under hB) (h2.under hB))
  have HC := Lib.hid hC
  have HW := Lib.hid hW
  obtain ⟨c0, c1, c2, f0, f1, f2⟩ := k1
  obtain ⟨d0, d1, d2, e0, e1, e2⟩ := k2
  clear hW hB k3 hC h1 h2
  go_enter Try.func61, Try.ntmps61
  go_upto_region 1 with fail
  try rw [HW.out]
  go_wp2_with fail
  clear c0 c1 c2 f0 f1 f2 d0 d1 d2 e0 e1 e2
  refine (HC.out _ HR.out.1 HR.out.2).mono ?_
  rintro e w1 ⟨rfl, hb⟩
  have HB1 := Lib.hid (HB.out.trans (hb.mono HB.out.size))
  obtain ⟨r0, r1, r2, g0, g1, g2⟩ := K3.out.below hb
  have HB2 := Lib.hid (show Below w.heap.size w (((w1.setCell ⟨w.heap.size + 2, 0, none⟩ (.bool i)).setCell ⟨w.heap.size + 2, 1, none⟩ (.int .i64 m)).setCell ⟨w.heap.size + 2, 2, none⟩ (.int .i64 k)) from below_set3 HB1.out (by omega) _ _ _)
  clear hb
  go_wp2_with fail
  exact bodyPost_ret (v := .tuple #[.agg #[.bool i, .int .i64 m, .int .i64 k], .int .i64 c]) (by simp [results, Try.results61, go_sem, r0, r1, r2]) rfl ⟨rfl, HB2.out⟩

end Go.Proofs.Ytjjaaknjdmijbaa
