/- Prove and Of of the deconvolution. By the verifier's side. -/
import Derived.Test.YtkienpbmoilheaaGreatADecADecBDecC
import Derived.Test.YtkienpbmoilheaaGreatAR5D
namespace Go.Proofs.YtkienpbmoilheaaGreat
open Go.RowKit
set_option linter.unusedSimpArgs false
set_option linter.unusedVariables false

/-- Block b holds a certificate. -/
structure G4 (w : World) (b : Nat) (x0 x1 x2 x3 : Value) : Prop where
  lo : Cur3 w b x0 x1 x2
  c3 : w.cell? ⟨b, 3, none⟩ = some x3
  f3 : w.frozen? ⟨b, 3, none⟩ = false
theorem G4.below {w w' : World} {b : Nat} {x0 x1 x2 x3 : Value} (h : G4 w b x0 x1 x2 x3) (hb : Below w.heap.size w w') : G4 w' b x0 x1 x2 x3 :=
  ⟨h.lo.below hb, (hb.cell (p := ⟨b, 3, none⟩) h.lo.lt).trans h.c3, (hb.frozen (p := ⟨b, 3, none⟩) h.lo.lt).trans h.f3⟩
theorem g4_new (w : World) (x0 x1 x2 x3 : Value) (t : TypeId) : G4 (w.alloc (.cells #[x0, x1, x2, x3] t)) w.heap.size x0 x1 x2 x3 :=
  ⟨⟨by go_simp, by go_simp, by go_simp, by go_simp, by go_simp, by go_simp⟩, by go_simp, by go_simp⟩
theorem G4.set4 {w : World} {b : Nat} {x0 x1 x2 x3 : Value} (h : G4 w b x0 x1 x2 x3) (y0 y1 y2 y3 : Value) : G4 ((((w.setCell ⟨b, 0, none⟩ y0).setCell ⟨b, 1, none⟩ y1).setCell ⟨b, 2, none⟩ y2).setCell ⟨b, 3, none⟩ y3) b y0 y1 y2 y3 := by
  obtain ⟨⟨c0, c1, c2, f0, f1, f2⟩, c3, f3⟩ := h
  exact ⟨⟨by go_simp, by go_simp, by go_simp, by go_simp, by go_simp, by go_simp⟩, by go_simp, by go_simp⟩
theorem below_set4 {B : Nat} {u w : World} {b : Nat} (h : Below B u w) (hb : B ≤ b) (y0 y1 y2 y3 : Value) : Below B u ((((w.setCell ⟨b, 0, none⟩ y0).setCell ⟨b, 1, none⟩ y1).setCell ⟨b, 2, none⟩ y2).setCell ⟨b, 3, none⟩ y3) :=
  (below_b3 h hb y0 y1 y2).setCell (p := ⟨b, 3, none⟩) hb _

abbrev gainsV (a : Option Addr) (n cap : Nat) (p inc : Int) (at1 : Option Addr) (m mc : Nat) : Value := .agg #[.slice a n cap, .int .i64 p, .int .i64 inc, .slice at1 m mc]

/-- What Prove hands back. -/
def GivesGains (y1 : List Int) (q1 : Nat) (j1 : Int) (y2 : List Int) (q2 : Nat) (j2 : Int) (L : Nat) (w : World) (e : Ending) (w' : World) : Prop :=
  ∃ (a : Option Addr) (n cap : Nat) (hs : List Int) (r : Nat) (knc : Int) (at1 : Option Addr) (m mc : Nat) (ts : List Int),
    e = .returned (.tuple #[gainsV a n cap r knc at1 m mc, .int .i64 0]) ∧ Below w.heap.size w w' ∧ RowZ w' a n cap hs ∧ RowZ w' at1 m mc ts ∧ EForm hs r knc (eDec y1 q1 j1 y2 q2 j2) ∧
    (Steep y1 q1 j1 y2 q2 j2 L → ts = []) ∧ (¬ Steep y1 q1 j1 y2 q2 j2 L → ts = firsts (fun t => ((firstTo (atC y1 q1 j1) (atC y2 q2 j2) t (reach y1 q1 y2 q2 L) : Nat) : Int)) y1.length) ∧
    (∀ x, a = some x → w.heap.size ≤ x.block) ∧ ∀ x, at1 = some x → w.heap.size ≤ x.block

theorem RowF.rowZ {w : World} {lb N M : Nat} {F : Nat → Int} (h : RowF w lb N F) (hM : M ≤ N) (hN : N ≤ 100000) (hb : ∀ i, i < M → In64 (F i)) : RowZ w (some ⟨lb, 0, none⟩) M N (firsts F M) :=
  ⟨firsts_length _ _, hM, by omega, by omega, fun i hi => ⟨_, rfl, by
    have := (h.cell i (by omega)).1
    rw [firsts_getD _ _ _ hi, show ((⟨lb, 0, none⟩ : Addr).add i) = ⟨lb, i, none⟩ by unfold Addr.add; split <;> simp_all]
    exact this⟩, fun i hi => by rw [firsts_getD _ _ _ hi]; exact hb i hi⟩

/-- The curve that is infinite everywhere. -/
theorem inf_form : EForm [4611686018427387904] 1 0 (fun _ => none) := by
  have hi : InfC [4611686018427387904] := rfl
  have g : Good [4611686018427387904] 1 0 := by
    refine ⟨by decide, by decide, by decide, by decide, by decide, by decide, fun i hi => .inr ?_, fun i hi => ?_, fun _ => ⟨rfl, rfl⟩, fun h => absurd rfl h⟩
    · have : i = 0 := by simp at hi; omega
      subst this; rfl
    · simp at hi
  refine ⟨g, fun t => eC_late g hi (by simp), 0, rfl, ⟨fun t _ => ?_, by omega, fun q h1 h2 => by omega, .inl rfl⟩⟩
  have h1 : ∀ t, atC [4611686018427387904] 1 0 t = infV := fun t => atC_inf hi (by simp) (by simp)
  rw [h1, h1]; rfl

theorem form_start {E : Nat → Option Int} {hs : List Int} {r : Nat} {knc : Int} (h : EForm hs r knc E) {s P : Nat} {c : Int} (hp : Per (encF E) s P c) (hP : 1 ≤ P) : hs.length - r ≤ s := by
  obtain ⟨g, he, s0, hl, hn⟩ := h
  have e : atC hs r knc = encF E := funext fun t => by rw [← enc_eC, he]; rfl
  rw [e] at hn
  have := hn.start_le hp hP
  omega

theorem prove1_any {w : World} {bx lb m cap : Nat} {F : Nat → Int} (hx : w.cell? ⟨bx, 0, none⟩ = some (.slice (some ⟨lb, 0, none⟩) m cap)) (hr : RowF w lb m F) (hm : m ≤ 2000) : ClosG 83 #[.pointer (some ⟨bx, 0, none⟩)] m F w := by
  rintro ti t v w' rfl ht rfl hb
  obtain ⟨h1, h2⟩ := (hr.under hb).cell t ht
  have h3 := (hb.cell (lt_of_cell hx)).trans hx
  have h4 : (t : Int) < (m : Int) := by omega
  clear hr hb hx
  go_enter Tryz.func83, Tryz.ntmps83
  go_wp2_with fail
  go_ret
  exact ⟨rfl, 0, rfl⟩

/-- What stands ahead of the last statement. -/
structure PS (w : World) (P : PV) (y1 y2 : List Int) (pb rb la N : Nat) (F : Nat → Int) (a5 : Option Addr) (n5 cap5 : Nat) (p5 : Nat) (inc5 : Int) (zs5 : List Int) (u : World) : Prop where
  bx : Bx u rb a5 n5 cap5 p5 inc5 zs5
  pr : PdB u pb P
  kr : G4 u (w.heap.size + 2) (.slice none 0 0) (.int .i64 0) (.int .i64 0) (.slice none 0 0)
  i : PIn P y1 y2 u
  ra : RowF u la N F
  below : Below w.heap.size w u
section
variable {w u v : World} {P : PV} {y1 y2 : List Int} {pb rb la N : Nat} {F : Nat → Int} {a5 : Option Addr} {n5 cap5 p5 : Nat} {inc5 : Int} {zs5 : List Int}
theorem PS.call (h : PS w P y1 y2 pb rb la N F a5 n5 cap5 p5 inc5 zs5 u) (hb : Below u.heap.size u v) : PS w P y1 y2 pb rb la N F a5 n5 cap5 p5 inc5 zs5 v :=
  ⟨h.bx.under hb, h.pr.below hb, h.kr.below hb, h.i.under hb, h.ra.under hb, h.below.trans (hb.mono h.below.size)⟩
abbrev PSS (w : World) (P : PV) (y1 y2 : List Int) (pb rb la N : Nat) (F : Nat → Int) (a5 : Option Addr) (n5 cap5 : Nat) (p5 : Nat) (inc5 : Int) (zs5 : List Int) (u : World) : Prop :=
  u.cell? ⟨rb, 0, none⟩ = some (.slice a5 n5 cap5) ∧ u.cell? ⟨rb, 1, none⟩ = some (.int .i64 p5) ∧ u.cell? ⟨rb, 2, none⟩ = some (.int .i64 inc5) ∧ u.cell? ⟨pb, 0, none⟩ = some (.slice P.a1 P.n1 P.cap1) ∧ u.cell? ⟨pb, 1, none⟩ = some (.int .i64 P.p1) ∧ u.cell? ⟨pb, 2, none⟩ = some (.int .i64 P.i1) ∧ u.cell? ⟨pb, 3, none⟩ = some (.slice P.a2 P.n2 P.cap2) ∧ u.cell? ⟨pb, 4, none⟩ = some (.int .i64 P.p2) ∧ u.cell? ⟨pb, 5, none⟩ = some (.int .i64 P.i2) ∧ u.cell? ⟨pb, 6, none⟩ = some (.slice (some ⟨P.la, 0, none⟩) 1040 1040) ∧ u.cell? ⟨pb, 7, none⟩ = some (.slice (some ⟨P.lb, 0, none⟩) P.R P.R) ∧ u.cell? ⟨pb, 8, none⟩ = some (.int .i64 P.L) ∧ u.cell? ⟨pb, 9, none⟩ = some (.int .i64 P.R) ∧ Hid (PS w P y1 y2 pb rb la N F a5 n5 cap5 p5 inc5 zs5 u)
theorem pss_of (h : PS w P y1 y2 pb rb la N F a5 n5 cap5 p5 inc5 zs5 u) : PSS w P y1 y2 pb rb la N F a5 n5 cap5 p5 inc5 zs5 u :=
  ⟨h.bx.box.c0, h.bx.box.c1, h.bx.box.c2, h.pr.lo.c0, h.pr.lo.c1, h.pr.lo.c2, h.pr.c3, h.pr.c4, h.pr.c5, h.pr.c6, h.pr.c7, h.pr.c8, h.pr.c9, h⟩
end

set_option maxRecDepth 100000 in
set_option maxHeartbeats 6400000 in
theorem dprove_ok (a1 : Option Addr) (n1 cap1 : Nat) (z1 : List Int) (p1 : Nat) (i1 : Int) (g1 : Good z1 p1 i1) (a2 : Option Addr) (n2 cap2 : Nat) (z2 : List Int) (p2 : Nat) (i2 : Int) (g2 : Good z2 p2 i2)
    {y1 y2 : List Int} {q1 q2 : Nat} {j1 j2 : Int} (hn1 : NormC z1 p1 i1 y1 q1 j1) (hn2 : NormC z2 p2 i2 y2 q2 j2) (L : Nat) (hL : q1 / Nat.gcd q1 q2 * q2 = L) (hd : Dec y1 q1 j1 y2 q2 j2 L) (w : World) (h1 : RowZ w a1 n1 cap1 z1) (h2 : RowZ w a2 n2 cap2 z2) :
    Calls Tryz.prog 63 #[curV a1 n1 cap1 p1 i1, curV a2 n2 cap2 p2 i2] w fun e w' => GivesGains y1 q1 j1 y2 q2 j2 L w e w' ∨ (e = .returned (.tuple #[.agg #[.slice none 0 0, .int .i64 0, .int .i64 0, .slice none 0 0], .int .i64 3]) ∧ Below w.heap.size w w' ∧ ¬ ECan (eDec y1 q1 j1 y2 q2 j2)) := by
  have hmf : ∀ (fn : Fn) (first cap : Array Value) (w : World), (Instr.makeFunc fn first cap).run Tryz.prog w = .ok (.func fn first cap) w := fun _ _ _ _ => rfl
  have HG := Lib.hid (And.intro g1 g2)
  have HN := Lib.hid (And.intro hn1 hn2)
  have HLL := Lib.hid hL
  have HD := Lib.hid hd
  obtain ⟨W, hW⟩ : ∃ W, ((w.alloc (.cells #[.slice a1 n1 cap1, .int .i64 p1, .int .i64 i1] 24)).alloc (.cells #[.slice a2 n2 cap2, .int .i64 p2, .int .i64 i2] 24)).alloc (.cells #[.slice none 0 0, .int .i64 0, .int .i64 0, .slice none 0 0] 82) = W := ⟨_, rfl⟩
  have hB : Below w.heap.size w W := by rw [← hW]; exact (((Below.refl _ _).alloc (Nat.le_refl _) _).alloc (by simp) _).alloc (by simp; omega) _
  have hWs : W.heap.size = w.heap.size + 3 := by rw [← hW]; simp
  have m1 : Cur3 W w.heap.size (.slice a1 n1 cap1) (.int .i64 p1) (.int .i64 i1) := by rw [← hW]; exact ((Cur3.new w _ _ _ _).alloc _).alloc _
  have m2 : Cur3 W (w.heap.size + 1) (.slice a2 n2 cap2) (.int .i64 p2) (.int .i64 i2) := by rw [← hW]; exact (Cur3.new2 w _ _ _ _ _).alloc _
  have mr : G4 W (w.heap.size + 2) (.slice none 0 0) (.int .i64 0) (.int .i64 0) (.slice none 0 0) := by
    rw [← hW]
    have := g4_new ((w.alloc (.cells #[.slice a1 n1 cap1, .int .i64 p1, .int .i64 i1] 24)).alloc (.cells #[.slice a2 n2 cap2, .int .i64 p2, .int .i64 i2] 24)) (.slice none 0 0) (.int .i64 0) (.int .i64 0) (.slice none 0 0) 82
    simpa using this
  have HB := Lib.hid hB
  have KR := Lib.hid mr
  have HR := Lib.hid (And.intro (h1.under hB) (h2.under hB))
  have HWS := Lib.hid hWs
  have HW := Lib.hid hW
  obtain ⟨c0, c1, c2, f0, f1, f2⟩ := m1
  obtain ⟨d0, d1, d2, e0, e1, e2⟩ := m2
  clear g1 g2 hn1 hn2 hL hd h1 h2 hB mr hWs hW
  go_enter Tryz.func63, Tryz.ntmps63
  go_wp2_with fail
  try rw [HW.out]
  clear c0 c1 c2 f0 f1 f2 d0 d1 d2 e0 e1 e2
  refine (dpaired_ok a1 n1 cap1 z1 p1 i1 HG.out.1 a2 n2 cap2 z2 p2 i2 HG.out.2 HN.out.1 HN.out.2 L HLL.out HD.out _ HR.out.1 HR.out.2).mono ?_
  rintro e v1 ⟨P, rfl, hb, hps, hpn, rfl, rfl, rfl, rfl, rfl⟩
  obtain ⟨W2, hw⟩ : ∃ W2, v1.alloc (dpO P) = W2 := ⟨_, rfl⟩
  obtain ⟨hz, pb0, _⟩ := pair_box hw
  have hWz : Below W.heap.size W W2 := hb.trans (hz.mono hb.size)
  have PB := Lib.hid pb0
  have KR2 := Lib.hid (KR.out.below hWz)
  have HB2 := Lib.hid (HB.out.trans (hWz.mono HB.out.size))
  have HPS := Lib.hid hps
  have PI2 := Lib.hid (hpn.under hz)
  have HW2 := Lib.hid hw
  have SZ1 := Lib.hid (show w.heap.size + 3 ≤ v1.heap.size by have := hb.size; have := HWS.out; omega)
  clear hb hps hpn hw hz hWz pb0 HR HW HB KR HWS
  go_upto_region 2 with fail
  try rw [HW2.out]
  obtain ⟨⟨c0, c1, c2, f0, f1, f2⟩, c3, c4, c5, c6, c7, c8, c9, f3, f4, f5, f6, f7, f8, f9⟩ := PB.out
  by_cases hst : Steep y1 P.p1 P.i1 y2 P.p2 P.i2 P.L
  · have HST := Lib.hid hst
    clear hst
    go_wp2_with fail
    refine (unbounded_any P y1 y2 HPS.out true ⟨fun _ => HST.out, fun _ => rfl⟩ _ PI2.out).mono ?_
    rintro e v2 ⟨rfl, hb⟩
    have hl2 : w.heap.size + 3 ≤ v2.heap.size := by have := hb.size; have := SZ1.out; have := PB.out.lt; omega
    obtain ⟨U1, hu1⟩ : ∃ U, ((((v2.setCell ⟨w.heap.size + 1 + 1, 0, none⟩ (.slice (some ⟨v2.heap.size, 0, none⟩) 1 1)).setCell ⟨w.heap.size + 1 + 1, 1, none⟩ (.int .i64 1)).setCell ⟨w.heap.size + 1 + 1, 2, none⟩ (.int .i64 0)).setCell ⟨w.heap.size + 1 + 1, 3, none⟩ (.slice none 0 0)) = U := ⟨_, rfl⟩
    obtain ⟨W3, hw3⟩ : ∃ W', U1.alloc (.cells #[.int .i64 4611686018427387904] 3) = W' := ⟨_, rfl⟩
    have hus : U1.heap.size = v2.heap.size := by rw [← hu1]; simp [World.setCell]
    have hbu : Below w.heap.size w U1 := by rw [← hu1]; exact below_set4 (HB2.out.trans (hb.mono HB2.out.size)) (by omega) _ _ _ _
    have hb3 : Below U1.heap.size U1 W3 := by rw [← hw3]; exact (Below.refl _ _).alloc (Nat.le_refl _) _
    have gu : G4 W3 (w.heap.size + 1 + 1) (.slice (some ⟨v2.heap.size, 0, none⟩) 1 1) (.int .i64 1) (.int .i64 0) (.slice none 0 0) := by
      have k := (KR2.out.below hb).set4 (.slice (some ⟨v2.heap.size, 0, none⟩) 1 1) (.int .i64 1) (.int .i64 0) (.slice none 0 0)
      have k2 : G4 U1 (w.heap.size + 1 + 1) (.slice (some ⟨v2.heap.size, 0, none⟩) 1 1) (.int .i64 1) (.int .i64 0) (.slice none 0 0) := by rw [← hu1]; exact k
      exact k2.below hb3
    have rw3 : RowZ W3 (some ⟨v2.heap.size, 0, none⟩) 1 1 [4611686018427387904] := by
      rw [← hw3, ← hus]
      refine ⟨rfl, Nat.le_refl _, by omega, by omega, fun i hi => ⟨_, rfl, ?_⟩, fun i hi => ?_⟩
      · obtain rfl : i = 0 := by omega
        exact new_cell U1 _ _
      · obtain rfl : i = 0 := by omega
        exact ⟨by decide, by decide⟩
    have HP := Lib.hid (show GivesGains y1 P.p1 P.i1 y2 P.p2 P.i2 P.L w (.returned (.tuple #[gainsV (some ⟨v2.heap.size, 0, none⟩) 1 1 (1 : Nat) 0 none 0 0, .int .i64 0])) W3 by
      refine ⟨_, _, _, [4611686018427387904], 1, 0, none, 0, 0, [], rfl, hbu.trans (hb3.mono hbu.size), rw3, rowZ_none _, ?_, fun _ => rfl, fun h => absurd HST.out h, fun x hx => (by cases hx; show w.heap.size ≤ v2.heap.size; omega), fun x hx => (by cases hx)⟩
      rw [show eDec y1 P.p1 P.i1 y2 P.p2 P.i2 = fun _ => none from funext fun t => dec_steep HD.out.g HD.out.k HD.out.h0 HD.out.m HST.out t]
      exact inf_form)
    clear c0 c1 c2 f0 f1 f2 c3 c4 c5 c6 c7 c8 c9 f3 f4 f5 f6 f7 f8 f9
    obtain ⟨⟨c0, c1, c2, f0, f1, f2⟩, c3, f3⟩ := KR2.out.below hb
    have HU := Lib.hid hu1
    have HW3 := Lib.hid hw3
    have GU := Lib.hid gu
    have ha : v2.heap.size ≠ w.heap.size + 2 := by omega
    have ha2 : w.heap.size + 2 < v2.heap.size := by omega
    clear hb hbu hb3 rw3 hw3 hl2 hu1 hus gu
    go_wp2_with fail
    try rw [HU.out]
    try rw [HW3.out]
    obtain ⟨⟨k0, k1, k2, _, _, _⟩, k3, _⟩ := GU.out
    exact bodyPost_ret (v := .tuple #[gainsV (some ⟨v2.heap.size, 0, none⟩) 1 1 (1 : Nat) 0 none 0 0, .int .i64 0]) (by simp [results, Tryz.results63, go_sem, k0, k1, k2, k3]) rfl (.inl HP.out)
  · have HST := Lib.hid hst
    clear hst
    have gp1 := HD.out.g.p1
    have gp2 := HD.out.g.p2
    have gp3 := HD.out.g.p3
    have gfew := HD.out.g.few
    go_wp2_with fail
    refine (unbounded_any P y1 y2 HPS.out false ⟨fun h => (by cases h), fun h => absurd h HST.out⟩ _ PI2.out).mono ?_
    rintro e v2 ⟨rfl, hb⟩
    have PB3 := Lib.hid (PB.out.below hb)
    have KR3 := Lib.hid (KR2.out.below hb)
    have HB3 := Lib.hid (HB2.out.trans (hb.mono HB2.out.size))
    have PI3 := Lib.hid (PI2.out.under hb)
    have SZ2 := Lib.hid (show v1.heap.size < v2.heap.size by have := hb.size; have := PB.out.lt; omega)
    clear hb c0 c1 c2 f0 f1 f2 c3 c4 c5 c6 c7 c8 c9 f3 f4 f5 f6 f7 f8 f9
    obtain ⟨⟨c0, c1, c2, f0, f1, f2⟩, c3, c4, c5, c6, c7, c8, c9, f3, f4, f5, f6, f7, f8, f9⟩ := PB3.out
    obtain ⟨s, hs⟩ : ∃ s, y1.length - P.p1 = s := ⟨_, rfl⟩
    have HS := Lib.hid (show y1.length = s + P.p1 by omega)
    have hs4 : s + P.p1 ≤ 400 := by omega
    obtain ⟨N, hN⟩ : ∃ N, s + 2 * P.p1 = N := ⟨_, rfl⟩
    have hNi : (s : Int) + 2 * (P.p1 : Int) = (N : Int) := by omega
    have hNw : IntKind.i64.wrap (N : Int) = (N : Int) := IntWalk.i64_in _ ⟨by omega, by omega⟩
    have hN5 : N ≤ 520 := by omega
    have HNN := Lib.hid hN
    have FO := Lib.hid (show FromOk (eDec y1 P.p1 P.i1 y2 P.p2 P.i2) s P.p1 by rw [← hs]; exact HD.out.from HST.out)
    clear hs hN
    go_wp2_with fail
    with_reducible refine (start_i P.a1 P.n1 P.cap1 y1 P.p1 P.i1 HPS.out.d.g HPS.out.n1 s HS.out _ PI3.out.r1).mono ?_
    rintro e v3 ⟨rfl, hb⟩
    have PB4 := Lib.hid (PB3.out.below hb)
    have KR4 := Lib.hid (KR3.out.below hb)
    have HB4 := Lib.hid (HB3.out.trans (hb.mono HB3.out.size))
    have PI4 := Lib.hid (PI3.out.under hb)
    have SZ3 := Lib.hid (show v1.heap.size < v3.heap.size by have := hb.size; have := SZ2.out; omega)
    clear hb c0 c1 c2 f0 f1 f2 c3 c4 c5 c6 c7 c8 c9 f3 f4 f5 f6 f7 f8 f9
    obtain ⟨⟨c0, c1, c2, f0, f1, f2⟩, c3, c4, c5, c6, c7, c8, c9, f3, f4, f5, f6, f7, f8, f9⟩ := PB4.out
    go_wp2_with fail
    with_reducible refine (bounds_any P y1 y2 HPS.out _ N rfl hN5 _ PI4.out).mono ?_
    rintro e v4 ⟨lv, la, rfl, hb, hlv, hla, hrv, hra⟩
    obtain ⟨W5, hw5⟩ : ∃ W', v4.alloc (.cells #[.slice (some ⟨lv, 0, none⟩) N N] 22) = W' := ⟨_, rfl⟩
    have hz5 : Below v4.heap.size v4 W5 := by rw [← hw5]; exact (Below.refl _ _).alloc (Nat.le_refl _) _
    have hb5 : Below v3.heap.size v3 W5 := hb.trans (hz5.mono hb.size)
    have PB5 := Lib.hid (PB4.out.below hb5)
    have KR5 := Lib.hid (KR4.out.below hb5)
    have HB5 := Lib.hid (HB4.out.trans (hb5.mono HB4.out.size))
    have PI5 := Lib.hid (PI4.out.under hb5)
    have RV := Lib.hid (And.intro (hrv.under hz5) (hra.under hz5))
    have BV := Lib.hid (show W5.cell? ⟨v4.heap.size, 0, none⟩ = some (.slice (some ⟨lv, 0, none⟩) N N) by rw [← hw5]; exact new_cell v4 _ _)
    have LA := Lib.hid (show v1.heap.size < la ∧ v1.heap.size < v4.heap.size by have := SZ3.out; have := hb.size; exact ⟨by omega, by omega⟩)
    have HW5 := Lib.hid hw5
    clear hb hlv hla hrv hra hw5 hz5 hb5 c0 c1 c2 f0 f1 f2 c3 c4 c5 c6 c7 c8 c9 f3 f4 f5 f6 f7 f8 f9
    go_upto_region 8 with fail
    try rw [HW5.out]
    obtain ⟨⟨c0, c1, c2, f0, f1, f2⟩, c3, c4, c5, c6, c7, c8, c9, f3, f4, f5, f6, f7, f8, f9⟩ := PB5.out
    have EX := Lib.hid (show ∀ (args : Array Value) (w : World), (callFunc 83 args).run Tryz.prog w = .ok (.enter 83 args) w from enters_of Tryz.func83 (by kernel_rfl) rfl)
    have HCG := Lib.hid (show ClosG 83 #[.pointer (some ⟨v4.heap.size, 0, none⟩)] (s + 2 * P.p1) (encF (eDec y1 P.p1 P.i1 y2 P.p2 P.i2)) W5 from by
      have h := prove1_any BV.out RV.out.1 (by omega)
      rw [HNN.out]
      exact h.congr fun t ht => by rw [HPS.out.r]; exact ((HD.out.val HST.out (by omega)).1).symm)
    obtain ⟨c, hc⟩ := FO.out.per
    have HPer := Lib.hid hc
    clear hc
    go_wp2_with fail
    refine (pcurve_i 83 #[.pointer (some ⟨v4.heap.size, 0, none⟩)] (encF (eDec y1 P.p1 P.i1 y2 P.p2 P.i2)) s s rfl P.p1 c gp1 gp2 (by omega) FO.out.mid HPer.out _ EX.out HCG.out).mono ?_
    rintro e v6 ⟨hb6, ⟨a5, n5, cap5, zs5, p5, inc5, rfl, hr5, hf5, hx5⟩ | ⟨rfl, hno5⟩⟩
    · obtain ⟨W7, hw7⟩ : ∃ W', v6.alloc (.cells #[.slice a5 n5 cap5, .int .i64 p5, .int .i64 inc5] 24) = W' := ⟨_, rfl⟩
      have hz7 : Below v6.heap.size v6 W7 := by rw [← hw7]; exact (Below.refl _ _).alloc (Nat.le_refl _) _
      have hb7 : Below W5.heap.size W5 W7 := hb6.trans (hz7.mono hb6.size)
      have hf := eform_of FO.out.tame hf5
      obtain ⟨s5, hs5, hns5⟩ := norm_self hf
      have P7 := Lib.hid (show PS w P y1 y2 v1.heap.size v6.heap.size la N (fun t => ((firstTo (atC y1 P.p1 P.i1) (atC y2 P.p2 P.i2) t P.R : Nat) : Int)) a5 n5 cap5 p5 inc5 zs5 W7.drew from
        PS.call (u := W7) ⟨by rw [← hw7]; exact Bx.new hr5, PB5.out.below hb7, KR5.out.below hb7, PI5.out.under hb7, RV.out.2.under hb7, HB5.out.trans (hb7.mono HB5.out.size)⟩ (Below.refl _ _).drew)
      have HF := Lib.hid hf
      have HS5 := Lib.hid hns5
      have hle5 := form_start hf HPer.out gp1
      have HX := Lib.hid (show ∀ x, a5 = some x → w.heap.size + 3 ≤ x.block from fun x hx => by have := hx5 x hx; have := SZ1.out; have := PB5.out.lt; omega)
      have HXE := Lib.hid (show max (y1.length - P.p1) (zs5.length - p5) + P.p1 = s + P.p1 by have := HS.out; omega)
      have HW7 := Lib.hid hw7
      clear hb6 hr5 hf5 hx5 hw7 hz7 hb7 hf hs5 hns5 hle5
      clear c0 c1 c2 f0 f1 f2 c3 c4 c5 c6 c7 c8 c9 f3 f4 f5 f6 f7 f8 f9
      obtain ⟨x, hx⟩ : ∃ x, s + P.p1 = x := ⟨_, rfl⟩
      have hxN : x ≤ N := by have := HNN.out; omega
      have hxi : (x : Int) ≤ (N : Int) := by omega
      have hx0 : (0 : Int) ≤ (x : Int) := by omega
      rw [hx] at HXE
      have HXX := Lib.hid hx
      clear hx
      go_upto_region 11 with fail
      try rw [HW7.out]
      have HIN := Lib.hid (show ∀ i, In64 (((firstTo (atC y1 P.p1 P.i1) (atC y2 P.p2 P.i2) i P.R : Nat) : Int)) from fun i => by
        have h1 := first_at (F := atC y1 P.p1 P.i1) (G := atC y2 P.p2 P.i2) (t := i) (n := P.R) (by rw [HPS.out.r]; exact HD.out.reach1) (HD.out.first0 i) HD.out.h0
        have h2 : P.R ≤ 519 := by rw [HPS.out.r]; exact HD.out.reach_le
        exact ⟨by omega, by omega⟩)
      refine wp_region_keeps (fun u => PSS w P y1 y2 v1.heap.size v6.heap.size la N (fun t => ((firstTo (atC y1 P.p1 P.i1) (atC y2 P.p2 P.i2) t P.R : Nat) : Int)) a5 n5 cap5 p5 inc5 zs5 u) 8 2 (by kernel_rfl) (by kernel_rfl) (pss_of P7.out) (fun hHeld0 => ?_)
      refine wpAnyK_take (i := 0) (v := ?_) rfl (by kernel_rfl) (fun _ _ _ h => h) (Or.inl ⟨by rfl, ?_⟩) (by assumption) ?_
      rotate_left
      · (intro w hSw; (try dsimp only at hSw); go_simp; try with_reducible rfl)
      try simp only [Act.put, List.getElem_toArray, List.getElem_cons_zero, List.getElem_cons_succ, List.setIfInBounds_toArray, List.set_cons_zero, List.set_cons_succ]
      refine wpAnyK_take (i := 1) (v := ?_) rfl (by kernel_rfl) (fun _ _ _ h => h) (Or.inl ⟨by rfl, ?_⟩) (by assumption) ?_
      rotate_left
      · (intro w hSw; (try dsimp only at hSw); go_simp; try with_reducible rfl)
      try simp only [Act.put, List.getElem_toArray, List.getElem_cons_zero, List.getElem_cons_succ, List.setIfInBounds_toArray, List.set_cons_zero, List.set_cons_succ]
      refine wpAnyK_take (i := 2) (v := ?_) rfl (by kernel_rfl) (fun _ _ _ h => h) (Or.inl ⟨by rfl, ?_⟩) (by assumption) ?_
      rotate_left
      · (intro w hSw; (try dsimp only at hSw); go_simp; try with_reducible rfl)
      try simp only [Act.put, List.getElem_toArray, List.getElem_cons_zero, List.getElem_cons_succ, List.setIfInBounds_toArray, List.set_cons_zero, List.set_cons_succ]
      refine wpAnyK_take (i := 3) (v := ?_) rfl (by kernel_rfl) (fun _ _ _ h => h) (Or.inl ⟨by rfl, ?_⟩) (by assumption) ?_
      rotate_left
      · (intro w hSw; (try dsimp only at hSw); go_simp; try with_reducible rfl)
      try simp only [Act.put, List.getElem_toArray, List.getElem_cons_zero, List.getElem_cons_succ, List.setIfInBounds_toArray, List.set_cons_zero, List.set_cons_succ]
      refine wpAnyK_step (i := 4) rfl (by kernel_rfl) (fun K hK => ?_)
      go_simp
      with_reducible refine (extent_any P y1 y2 a5 n5 cap5 zs5 p5 inc5 HPS.out HF.out.good HS5.out x HXE.out _ P7.out.i P7.out.bx.row).mono ?_
      rintro e u3 ⟨rfl, hb⟩
      have T1 := Lib.hid (P7.out.call hb)
      clear hb
      refine hK.out _ _ (pss_of T1.out) (fun hHeld1 => ?_)
      clear hK K hHeld0
      try simp only [Act.put, List.getElem_toArray, List.getElem_cons_zero, List.getElem_cons_succ, List.setIfInBounds_toArray, List.set_cons_zero, List.set_cons_succ]
      refine wpAnyK_take (i := 5) (v := ?_) rfl (by kernel_rfl) (fun _ _ _ h => h) (Or.inl ⟨by rfl, ?_⟩) (by assumption) ?_
      rotate_left
      · (intro w hSw; (try dsimp only at hSw); go_simp; try with_reducible rfl)
      try simp only [Act.put, List.getElem_toArray, List.getElem_cons_zero, List.getElem_cons_succ, List.setIfInBounds_toArray, List.set_cons_zero, List.set_cons_succ]
      refine wpAnyK_step (i := 6) rfl (by kernel_rfl) (fun K hK => ?_)
      go_simp
      with_reducible refine (clone_any ⟨la, 0, none⟩ x N (firsts (fun t => ((firstTo (atC y1 P.p1 P.i1) (atC y2 P.p2 P.i2) t P.R : Nat) : Int)) x) _ (T1.out.ra.rowZ hxN (by omega) (fun i hi => HIN.out i)) (by omega)).mono ?_
      rintro e u4 ⟨at4, cap4, rfl, hb, hr, hx⟩
      have T2 := Lib.hid (T1.out.call hb)
      have RT := Lib.hid (And.intro hr (show ∀ y, at4 = some y → w.heap.size + 3 ≤ y.block from fun y hy => by have := hx y hy; have := SZ1.out; have := T1.out.pr.lt; omega))
      clear hb hr hx
      refine hK.out _ _ (pss_of T2.out) (fun hHeld2 => ?_)
      clear hK K hHeld1
      try simp only [Act.put, List.getElem_toArray, List.getElem_cons_zero, List.getElem_cons_succ, List.setIfInBounds_toArray, List.set_cons_zero, List.set_cons_succ]
      refine wpAnyK_take (i := 7) (v := ?_) rfl (by kernel_rfl) (fun _ _ _ h => h) (Or.inl ⟨by rfl, ?_⟩) (by assumption) ?_
      rotate_left
      · (intro w hSw; (try dsimp only at hSw); go_simp; try with_reducible rfl)
      try simp only [Act.put, List.getElem_toArray, List.getElem_cons_zero, List.getElem_cons_succ, List.setIfInBounds_toArray, List.set_cons_zero, List.set_cons_succ]
      refine wpAnyK_done (by kernel_rfl) ?_
      simp only [List.drop_succ_cons, List.drop_zero]
      clear hHeld2
      have HP := Lib.hid (show GivesGains y1 P.p1 P.i1 y2 P.p2 P.i2 P.L w (.returned (.tuple #[gainsV a5 n5 cap5 p5 inc5 at4 x cap4, .int .i64 0])) (((((u4.setCell ⟨w.heap.size + 2, 0, none⟩ (.slice a5 n5 cap5)).setCell ⟨w.heap.size + 2, 1, none⟩ (.int .i64 p5)).setCell ⟨w.heap.size + 2, 2, none⟩ (.int .i64 inc5)).setCell ⟨w.heap.size + 2, 3, none⟩ (.slice at4 x cap4))) by
        have q1 : ∀ y, a5 = some y → 1 ≤ n5 → y.block ≠ w.heap.size + 2 := fun y hy _ => by have := HX.out y hy; omega
        have q2 : ∀ y, at4 = some y → 1 ≤ x → y.block ≠ w.heap.size + 2 := fun y hy _ => by have := RT.out.2 y hy; omega
        refine ⟨a5, n5, cap5, zs5, p5, inc5, at4, x, cap4, _, rfl, below_set4 T2.out.below (by omega) _ _ _ _, (((T2.out.bx.row.store q1 _ _).store q1 _ _).store q1 _ _).store q1 _ _, (((RT.out.1.store q2 _ _).store q2 _ _).store q2 _ _).store q2 _ _, HF.out, fun h => absurd h HST.out, fun _ => ?_, fun y hy => (by have := HX.out y hy; omega), fun y hy => (by have := RT.out.2 y hy; omega)⟩
        rw [HPS.out.r, HS.out, HXX.out])
      obtain ⟨⟨c0, c1, c2, f0, f1, f2⟩, c3, f3⟩ := T2.out.kr
      go_wp2_with fail
      exact bodyPost_ret (v := .tuple #[gainsV a5 n5 cap5 p5 inc5 at4 x cap4, .int .i64 0]) (by simp [results, Tryz.results63, go_sem, c0, c1, c2, c3]) rfl (.inl HP.out)
    · obtain ⟨W7, hw7⟩ : ∃ W', v6.alloc (.cells #[.slice none 0 0, .int .i64 0, .int .i64 0] 24) = W' := ⟨_, rfl⟩
      have hz7 : Below v6.heap.size v6 W7 := by rw [← hw7]; exact (Below.refl _ _).alloc (Nat.le_refl _) _
      have hb7 : Below W5.heap.size W5 W7 := hb6.trans (hz7.mono hb6.size)
      have KR7 := Lib.hid (KR5.out.below hb7)
      have HB7 := Lib.hid (HB5.out.trans (hb7.mono HB5.out.size))
      have HNO := Lib.hid (show ¬ ECan (eDec y1 P.p1 P.i1 y2 P.p2 P.i2) from fun h => hno5 h.can)
      have HW7 := Lib.hid hw7
      clear hb6 hno5 hw7 hz7 hb7 c0 c1 c2 f0 f1 f2 c3 c4 c5 c6 c7 c8 c9 f3 f4 f5 f6 f7 f8 f9
      go_upto_region 9 with fail
      try rw [HW7.out]
      have HP := Lib.hid (show Below w.heap.size w (((((W7.setCell ⟨w.heap.size + 2, 0, none⟩ (.slice none 0 0)).setCell ⟨w.heap.size + 2, 1, none⟩ (.int .i64 0)).setCell ⟨w.heap.size + 2, 2, none⟩ (.int .i64 0)).setCell ⟨w.heap.size + 2, 3, none⟩ (.slice none 0 0))) from below_set4 HB7.out (by omega) _ _ _ _)
      obtain ⟨⟨c0, c1, c2, f0, f1, f2⟩, c3, f3⟩ := KR7.out
      go_wp2_with fail
      exact bodyPost_ret (v := .tuple #[.agg #[.slice none 0 0, .int .i64 0, .int .i64 0, .slice none 0 0], .int .i64 3]) (by simp [results, Tryz.results63, go_sem, c0, c1, c2, c3]) rfl (.inr ⟨rfl, HP.out, HNO.out⟩)

/-- Normal forms, and what they keep to. -/
theorem dec_of {z1 z2 : List Int} {p1 p2 : Nat} {i1 i2 : Int} (g1 : Good z1 p1 i1) (g2 : Good z2 p2 i2) (h0 : atC z2 p2 i2 0 = 0) {L : Nat} (hL : LcmN z1 p1 i1 z2 p2 i2 L) (hL2 : L ≤ 120) :
    ∃ y1 q1 j1 y2 q2 j2, NormC z1 p1 i1 y1 q1 j1 ∧ NormC z2 p2 i2 y2 q2 j2 ∧ q1 / Nat.gcd q1 q2 * q2 = L ∧ Dec y1 q1 j1 y2 q2 j2 L ∧ eDec y1 q1 j1 y2 q2 j2 = eDec z1 p1 i1 z2 p2 i2 := by
  obtain ⟨y1, q1, j1, y2, q2, j2, hn1, hn2, hLL⟩ := hL
  have k1 := hn1.eform g1
  have k2 := hn2.eform g2
  refine ⟨y1, q1, j1, y2, q2, j2, hn1, hn2, hLL, ⟨k1.1, k2.1, (hn2.values g2 0).trans h0, k1.2.2, k2.2.2, (lcm_of k1.1.p1 k2.1.p1 hLL).mult, hL2⟩, ?_⟩
  unfold eDec
  rw [funext k1.2.1, funext k2.2.1]

set_option maxRecDepth 100000 in
set_option maxHeartbeats 3200000 in
theorem dof_ok (a1 : Option Addr) (n1 cap1 : Nat) (z1 : List Int) (p1 : Nat) (i1 : Int) (g1 : Good z1 p1 i1) (a2 : Option Addr) (n2 cap2 : Nat) (z2 : List Int) (p2 : Nat) (i2 : Int) (g2 : Good z2 p2 i2) (h0 : atC z2 p2 i2 0 = 0) (L : Nat) (hL : LcmN z1 p1 i1 z2 p2 i2 L) (hL2 : L ≤ 120) (w : World) (h1 : RowZ w a1 n1 cap1 z1) (h2 : RowZ w a2 n2 cap2 z2) :
    Calls Tryz.prog 40 #[curV a1 n1 cap1 p1 i1, curV a2 n2 cap2 p2 i2] w (GivesE (eDec z1 p1 i1 z2 p2 i2) w) := by
  obtain ⟨y1, q1, j1, y2, q2, j2, hn1, hn2, hLL, hd, he⟩ := dec_of g1 g2 h0 hL hL2
  have HE := Lib.hid he
  have HG := Lib.hid (And.intro g1 g2)
  have HN := Lib.hid (And.intro hn1 hn2)
  have HLL := Lib.hid hLL
  have HD := Lib.hid hd
  obtain ⟨W, hW⟩ : ∃ W, ((w.alloc (.cells #[.slice a1 n1 cap1, .int .i64 p1, .int .i64 i1] 24)).alloc (.cells #[.slice a2 n2 cap2, .int .i64 p2, .int .i64 i2] 24)).alloc (.cells #[.slice none 0 0, .int .i64 0, .int .i64 0] 24) = W := ⟨_, rfl⟩
  obtain ⟨⟨hB, hWs⟩, m1, m2, mr⟩ := boxesB w a1 n1 cap1 p1 i1 a2 n2 cap2 p2 i2 hW
  have HB := Lib.hid hB
  have KR := Lib.hid mr
  have HR := Lib.hid (And.intro (h1.under hB) (h2.under hB))
  have HWS := Lib.hid hWs
  have HW := Lib.hid hW
  obtain ⟨c0, c1, c2, f0, f1, f2⟩ := m1
  obtain ⟨d0, d1, d2, e0, e1, e2⟩ := m2
  clear g1 g2 h0 hn1 hn2 hLL hd he hL hL2 h1 h2 hB mr hWs hW
  go_enter Tryz.func40, Tryz.ntmps40
  go_wp2_with fail
  try rw [HW.out]
  clear c0 c1 c2 f0 f1 f2 d0 d1 d2 e0 e1 e2
  refine (dprove_ok a1 n1 cap1 z1 p1 i1 HG.out.1 a2 n2 cap2 z2 p2 i2 HG.out.2 HN.out.1 HN.out.2 L HLL.out HD.out _ HR.out.1 HR.out.2).mono ?_
  rintro e v1 (⟨a5, n5, cap5, zs5, p5, inc5, at5, m5, mc5, ts5, rfl, hb, hr5, _, hf5, _, _, hx5, _⟩ | ⟨rfl, hb, hno⟩)
  · obtain ⟨W2, hw⟩ : ∃ W2, v1.alloc (.cells #[.slice a5 n5 cap5, .int .i64 p5, .int .i64 inc5, .slice at5 m5 mc5] 82) = W2 := ⟨_, rfl⟩
    have hz : Below v1.heap.size v1 W2 := by rw [← hw]; exact (Below.refl _ _).alloc (Nat.le_refl _) _
    have hWz : Below W.heap.size W W2 := hb.trans (hz.mono hb.size)
    have GB := Lib.hid (show G4 W2 v1.heap.size (.slice a5 n5 cap5) (.int .i64 p5) (.int .i64 inc5) (.slice at5 m5 mc5) by rw [← hw]; exact g4_new v1 _ _ _ _ _)
    have HP := Lib.hid (GivesE.post (b := w.heap.size + 2) HB.out (by omega) KR.out.lt hWz (hr5.under hz) hx5 (HE.out ▸ hf5))
    have KR2 := Lib.hid (KR.out.below hWz)
    have HW2 := Lib.hid hw
    clear hb hr5 hf5 hx5 hz hw hWz
    go_upto_region 2 with fail
    try rw [HW2.out]
    obtain ⟨⟨c0, c1, c2, f0, f1, f2⟩, c3, f3⟩ := GB.out
    obtain ⟨d0, d1, d2, e0, e1, e2⟩ := KR2.out
    go_wp2_with fail
    exact bodyPost_ret (v := .tuple #[curV a5 n5 cap5 p5 inc5, .int .i64 0]) (by simp [results, Tryz.results40, go_sem, d0, d1, d2]) rfl HP.out
  · obtain ⟨W2, hw⟩ : ∃ W2, v1.alloc (.cells #[.slice none 0 0, .int .i64 0, .int .i64 0, .slice none 0 0] 82) = W2 := ⟨_, rfl⟩
    have hz : Below v1.heap.size v1 W2 := by rw [← hw]; exact (Below.refl _ _).alloc (Nat.le_refl _) _
    have hWz : Below W.heap.size W W2 := hb.trans (hz.mono hb.size)
    have GB := Lib.hid (show G4 W2 v1.heap.size (.slice none 0 0) (.int .i64 0) (.int .i64 0) (.slice none 0 0) by rw [← hw]; exact g4_new v1 _ _ _ _ _)
    have HP := Lib.hid (GivesE.postNo (b := w.heap.size + 2) HB.out (by omega) hWz (HE.out ▸ hno))
    have KR2 := Lib.hid (KR.out.below hWz)
    have HW2 := Lib.hid hw
    clear hb hno hz hw hWz
    go_upto_region 2 with fail
    try rw [HW2.out]
    obtain ⟨⟨c0, c1, c2, f0, f1, f2⟩, c3, f3⟩ := GB.out
    obtain ⟨d0, d1, d2, e0, e1, e2⟩ := KR2.out
    go_wp2_with fail
    exact bodyPost_ret (v := .tuple #[curV none 0 0 0 0, .int .i64 3]) (by simp [results, Tryz.results40, go_sem, d0, d1, d2]) rfl HP.out

end Go.Proofs.YtkienpbmoilheaaGreat
