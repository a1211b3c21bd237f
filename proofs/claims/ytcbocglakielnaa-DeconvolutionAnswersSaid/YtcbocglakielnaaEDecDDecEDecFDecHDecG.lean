/- Prove and Of of the deconvolution. By the verifier's side. -/
import Derived.Test.YtcbocglakielnaaEDecADecBDecC
import Derived.Test.YtcbocglakielnaaER5D
import Derived.Test.YtcbocglakielnaaECurX
import Derived.Test.YtcbocglakielnaaEZero
namespace Go.Proofs.Ytcbocglakielnaa
open Go.RowKit
set_option linter.unusedSimpArgs false
set_option linter.unusedVariables false

/-- Block b holds a certificate. -/
structure G4 (w : World) (b : Nat) (x0 x1 x2 x3 : Value) : Prop where
  lo : Cur3 w b x0 x1 x2
  c3 : w.cell? ⟨b, 3, none⟩ = some x3
  f3 : w.frozen? ⟨b, 3, none⟩ = false
theorem G4.below {w w' : World} {b : Nat} {x0 x1 x2 x3 : Value} (h : G4 w b x0 x1 x2 x3) (hb : Below w.heap.size w w') : G4 w' b x0 x1 x2 x3 :=
  ⟨h.lo.below hb, (hb.cell (p := ⟨b, 3, none⟩) h.lo.lt).trans h.c3, (hb.frozen (p := ⟨b, 3, none⟩) h.lo.lt).trans h.f3⟩
theorem g4_new (w : World) (x0 x1 x2 x3 : Value) (t : TypeId) : G4 (w.alloc (.cells #[x0, x1, x2, x3] t)) w.heap.size x0 x1 x2 x3 :=
  ⟨⟨by go_simp, by go_simp, by go_simp, by go_simp, by go_simp, by go_simp⟩, by go_simp, by go_simp⟩
theorem G4.set4 {w : World} {b : Nat} {x0 x1 x2 x3 : Value} (h : G4 w b x0 x1 x2 x3) (y0 y1 y2 y3 : Value) : G4 ((((w.setCell ⟨b, 0, none⟩ y0).setCell ⟨b, 1, none⟩ y1).setCell ⟨b, 2, none⟩ y2).setCell ⟨b, 3, none⟩ y3) b y0 y1 y2 y3 := by
  obtain ⟨⟨c0, c1, c2, f0, f1, f2⟩, c3, f3⟩ := h
  exact ⟨⟨by go_simp, by go_simp, by go_simp, by go_simp, by go_simp, by go_simp⟩, by go_simp, by go_simp⟩
theorem below_set4 {B : Nat} {u w : World} {b : Nat} (h : Below B u w) (hb : B ≤ b) (y0 y1 y2 y3 : Value) : Below B u ((((w.setCell ⟨b, 0, none⟩ y0).setCell ⟨b, 1, none⟩ y1).setCell ⟨b, 2, none⟩ y2).setCell ⟨b, 3, none⟩ y3) :=
  (below_b3 h hb y0 y1 y2).setCell (p := ⟨b, 3, none⟩) hb _

abbrev gainsV (a : Option Addr) (n cap : Nat) (p inc : Int) (at1 : Option Addr) (m mc : Nat) : Value := .agg #[.slice a n cap, .int .i64 p, .int .i64 inc, .slice at1 m mc]

/-- What Prove hands back. -/
def GivesGains (y1 : List Int) (q1 : Nat) (j1 : Int) (y2 : List Int) (q2 : Nat) (j2 : Int) (L : Nat) (w : World) (e : Ending) (w' : World) : Prop :=
  ∃ (a : Option Addr) (n cap : Nat) (hs : List Int) (r : Nat) (knc : Int) (at1 : Option Addr) (m mc : Nat) (ts : List Int),
    e = .returned (.tuple #[gainsV a n cap r knc at1 m mc, .int .i64 0]) ∧ Below w.heap.size w w' ∧ RowZ w' a n cap hs ∧ RowZ w' at1 m mc ts ∧ EForm hs r knc (eDec y1 q1 j1 y2 q2 j2) ∧
    (Steep y1 q1 j1 y2 q2 j2 L → ts = []) ∧ (¬ Steep y1 q1 j1 y2 q2 j2 L → ts = firsts (fun t => ((firstTo (atC y1 q1 j1) (atC y2 q2 j2) t (reach y1 q1 y2 q2 L) : Nat) : Int)) y1.length) ∧
    (∀ x, a = some x → w.heap.size ≤ x.block) ∧ ∀ x, at1 = some x → w.heap.size ≤ x.block

theorem RowF.rowZ {w : World} {lb N M : Nat} {F : Nat → Int} (h : RowF w lb N F) (hM : M ≤ N) (hN : N ≤ 100000) (hb : ∀ i, i < M → In64 (F i)) : RowZ w (some ⟨lb, 0, none⟩) M N (firsts F M) :=
  ⟨firsts_length _ _, hM, by omega, by omega, fun i hi => ⟨_, rfl, by
    have := (h.cell i (by omega)).1
    rw [firsts_getD _ _ _ hi, show ((⟨lb, 0, none⟩ : Addr).add i) = ⟨lb, i, none⟩ by unfold Addr.add; split <;> simp_all]
    exact this⟩, fun i hi => by rw [firsts_getD _ _ _ hi]; exact hb i hi⟩

/-- The curve that is infinite everywhere. -/
theorem inf_form : EForm [4611686018427387904] 1 0 (fun _ => none) := by
  have hi : InfC [4611686018427387904] := rfl
  have g : Good [4611686018427387904] 1 0 := by
    refine ⟨by decide, by decide, by decide, by decide, by decide, by decide, fun i hi => .inr ?_, fun i hi => ?_, fun _ => ⟨rfl, rfl⟩, fun h => absurd rfl h⟩
    · have : i = 0 := by simp at hi; omega
      subst this; rfl
    · simp at hi
  refine ⟨g, fun t => eC_late g hi (by simp), 0, rfl, ⟨fun t _ => ?_, by omega, fun q h1 h2 => by omega, .inl rfl⟩⟩
  have h1 : ∀ t, atC [4611686018427387904] 1 0 t = infV := fun t => atC_inf hi (by simp) (by simp)
  rw [h1, h1]; rfl

theorem form_start {E : Nat → Option Int} {hs : List Int} {r : Nat} {knc : Int} (h : EForm hs r knc E) {s P : Nat} {c : Int} (hp : Per (encF E) s P c) (hP : 1 ≤ P) : hs.length - r ≤ s := by
  obtain ⟨g, he, s0, hl, hn⟩ := h
  have e : atC hs r knc = encF E := funext fun t => by rw [← enc_eC, he]; rfl
  rw [e] at hn
  have := hn.start_le hp hP
  omega

theorem prove1_any {w : World} {bx lb m cap : Nat} {F : Nat → Int} (hx : w.cell? ⟨bx, 0, none⟩ = some (.slice (some ⟨lb, 0, none⟩) m cap)) (hr : RowF w lb m F) (hm : m ≤ 2000) : ClosG 91 #[.pointer (some ⟨bx, 0, none⟩)] m F w := by
  rintro ti t v w' rfl ht rfl hb
  obtain ⟨h1, h2⟩ := (hr.under hb).cell t ht
  have h3 := (hb.cell (lt_of_cell hx)).trans hx
  have h4 : (t : Int) < (m : Int) := by omega
  clear hr hb hx
  go_enter Try.func91, Try.ntmps91
  go_wp2_with fail
  go_ret
  exact ⟨rfl, 0, rfl⟩

/-- What stands ahead of the last statement. -/
structure PS (w : World) (P : PV) (y1 y2 : List Int) (pb rb la N : Nat) (F : Nat → Int) (a5 : Option Addr) (n5 cap5 : Nat) (p5 : Nat) (inc5 : Int) (zs5 : List Int) (u : World) : Prop where
  bx : Bx u rb a5 n5 cap5 p5 inc5 zs5
  pr : PdB u pb P
  kr : G4 u (w.heap.size + 2) (.slice none 0 0) (.int .i64 0) (.int .i64 0) (.slice none 0 0)
  i : PIn P y1 y2 u
  ra : RowF u la N F
  below : Below w.heap.size w u
section
variable {w u v : World} {P : PV} {y1 y2 : List Int} {pb rb la N : Nat} {F : Nat → Int} {a5 : Option Addr} {n5 cap5 p5 : Nat} {inc5 : Int} {zs5 : List Int}
theorem PS.call (h : PS w P y1 y2 pb rb la N F a5 n5 cap5 p5 inc5 zs5 u) (hb : Below u.heap.size u v) : PS w P y1 y2 pb rb la N F a5 n5 cap5 p5 inc5 zs5 v :=
  ⟨h.bx.under hb, h.pr.below hb, h.kr.below hb, h.i.under hb, h.ra.under hb, h.below.trans (hb.mono h.below.size)⟩
abbrev PSS (w : World) (P : PV) (y1 y2 : List Int) (pb rb la N : Nat) (F : Nat → Int) (a5 : Option Addr) (n5 cap5 : Nat) (p5 : Nat) (inc5 : Int) (zs5 : List Int) (u : World) : Prop :=
  u.cell? ⟨rb, 0, none⟩ = some (.slice a5 n5 cap5) ∧ u.cell? ⟨rb, 1, none⟩ = some (.int .i64 p5) ∧ u.cell? ⟨rb, 2, none⟩ = some (.int .i64 inc5) ∧ u.cell? ⟨pb, 0, none⟩ = some (.slice P.a1 P.n1 P.cap1) ∧ u.cell? ⟨pb, 1, none⟩ = some (.int .i64 P.p1) ∧ u.cell? ⟨pb, 2, none⟩ = some (.int .i64 P.i1) ∧ u.cell? ⟨pb, 3, none⟩ = some (.slice P.a2 P.n2 P.cap2) ∧ u.cell? ⟨pb, 4, none⟩ = some (.int .i64 P.p2) ∧ u.cell? ⟨pb, 5, none⟩ = some (.int .i64 P.i2) ∧ u.cell? ⟨pb, 6, none⟩ = some (.slice (some ⟨P.la, 0, none⟩) 1040 1040) ∧ u.cell? ⟨pb, 7, none⟩ = some (.slice (some ⟨P.lb, 0, none⟩) P.R P.R) ∧ u.cell? ⟨pb, 8, none⟩ = some (.int .i64 P.L) ∧ u.cell? ⟨pb, 9, none⟩ = some (.int .i64 P.R) ∧ Hid (PS w P y1 y2 pb rb la N F a5 n5 cap5 p5 inc5 zs5 u)
theorem pss_of (h : PS w P y1 y2 pb rb la N F a5 n5 cap5 p5 inc5 zs5 u) : PSS w P y1 y2 pb rb la N F a5 n5 cap5 p5 inc5 zs5 u :=
  ⟨h.bx.box.c0, h.bx.box.c1, h.bx.box.c2, h.pr.lo.c0, h.pr.lo.c1, h.pr.lo.c2, h.pr.c3, h.pr.c4, h.pr.c5, h.pr.c6, h.pr.c7, h.pr.c8, h.pr.c9, h⟩
end

set_option maxRecDepth 100000 in
set_option maxHeartbeats 6400000 in
theorem dprove_ok (a1 : Option Addr) (n1 cap1 : Nat) (z1 : List Int) (p1 : Nat) (i1 : Int) (g1 : Good z1 p1 i1) (a2 : Option Addr) (n2 cap2 : Nat) (z2 : List Int) (p2 : Nat) (i2 : Int) (g2 : Good z2 p2 i2)
    {y1 y2 : List Int} {q1 q2 : Nat} {j1 j2 : Int} (hn1 : NormC z1 p1 i1 y1 q1 j1) (hn2 : NormC z2 p2 i2 y2 q2 j2) (L : Nat) (hL : q1 / Nat.gcd q1 q2 * q2 = L) (hd : Dec y1 q1 j1 y2 q2 j2 L) (w : World) (h1 : RowZ w a1 n1 cap1 z1) (h2 : RowZ w a2 n2 cap2 z2) :
    Calls Try.prog 47 #[curV a1 n1 cap1 p1 i1, curV a2 n2 cap2 p2 i2] w fun e w' => GivesGains y1 q1 j1 y2 q2 j2 L w e w' ∨ (e = .returned (.tuple #[.agg #[.slice none 0 0, .int .i64 0, .int .i64 0, .slice none 0 0], .int .i64 3]) ∧ Below w.heap.size w w' ∧ ¬ ECan (eDec y1 q1 j1 y2 q2 j2)) := by
  have hmf : ∀ (fn : Fn) (first cap : Array Value) (w : World), (Instr.makeFunc fn first cap).run Try.prog w = .ok (.func fn first cap) w := fun _ _ _ _ => rfl
  have HG := Lib.hid (And.intro g1 g2)
  have HN := Lib.hid (And.intro hn1 hn2)
  have HLL := Lib.hid hL
  have HD := Lib.hid hd
  obtain ⟨W, hW⟩ : ∃ W, ((w.alloc (.cells #[.slice a1 n1 cap1, .int .i64 p1, .int .i64 i1] 24)).alloc (.cells #[.slice a2 n2 cap2, .int .i64 p2, .int .i64 i2] 24)).alloc (.cells #[.slice none 0 0, .int .i64 0, .int .i64 0, .slice none 0 0] 57) = W := ⟨_, rfl⟩
  have hB : Below w.heap.size w W := by rw [← hW]; exact (((Below.refl _ _).alloc (Nat.le_refl _) _).alloc (by simp) _).alloc (by simp; omega) _
  have hWs : W.heap.size = w.heap.size + 3 := by rw [← hW]; simp
  have m1 : Cur3 W w.heap.size (.slice a1 n1 cap1) (.int .i64 p1) (.int .i64 i1) := by rw [← hW]; exact ((Cur3.new w _ _ _ _).alloc _).alloc _
  have m2 : Cur3 W (w.heap.size + 1) (.slice a2 n2 cap2) (.int .i64 p2) (.int .i64 i2) := by rw [← hW]; exact (Cur3.new2 w _ _ _ _ _).alloc _
  have mr : G4 W (w.heap.size + 2) (.slice none 0 0) (.int .i64 0) (.int .i64 0) (.slice none 0 0) := by
    rw [← hW]
    have := g4_new ((w.alloc (.cells #[.slice a1 n1 cap1, .int .i64 p1, .int .i64 i1] 24)).alloc (.cells #[.slice a2 n2 cap2, .int .i64 p2, .int .i64 i2] 24)) (.slice none 0 0) (.int .i64 0) (.int .i64 0) (.slice none 0 0) 57
    simpa using this
  have HB := Lib.hid hB
  have KR := Lib.hid mr
  have HR := Lib.hid (And.intro (h1.under hB) (h2.under hB))
  have HWS := Lib.hid hWs
  have HW := Lib.hid hW
  obtain ⟨c0, c1, c2, f0, f1, f2⟩ := m1
  obtain ⟨d0, d1, d2, e0, e1, e2⟩ := m2
  clear g1 g2 hn1 hn2 hL hd h1 h2 hB mr hWs hW
  go_enter Try.func47, Try.ntmps47
  go_wp2_with fail
  try rw [HW.out]
  clear c0 c1 c2 f0 f1 f2 d0 d1 d2 e0 e1 e2
  refine (dpaired_ok a1 n1 cap1 z1 p1 i1 HG.out.1 a2 n2 cap2 z2 p2 i2 HG.out.2 HN.out.1 HN.out.2 L HLL.out HD.out _ HR.out.1 HR.out.2).mono ?_
  rintro e v1 ⟨P, rfl, hb, hps, hpn, rfl, rfl, rfl, rfl, rfl⟩
  obtain ⟨W2, hw⟩ : ∃ W2, v1.alloc (dpO P) = W2 := ⟨_, rfl⟩
  obtain ⟨hz, pb0, _⟩ := pair_box hw
  have hWz : Below W.heap.size W W2 := hb.trans (hz.mono hb.size)
  have PB := Lib.hid pb0
  have KR2 := Lib.hid (KR.out.below hWz)
  have HB2 := Lib.hid (HB.out.trans (hWz.mono HB.out.size))
  have HPS := Lib.hid hps
  have PI2 := Lib.hid (hpn.under hz)
  have HW2 := Lib.hid hw
  have SZ1 := Lib.hid (show w.heap.size + 3 ≤ v1.heap.size by have := hb.size; have := HWS.out; omega)
  clear hb hps hpn hw hz hWz pb0 HR HW HB KR HWS
  go_upto_region 2 with fail
  try rw [HW2.out]
  obtain ⟨⟨c0, c1, c2, f0, f1, f2⟩, c3, c4, c5, c6, c7, c8, c9, f3, f4, f5, f6, f7, f8, f9⟩ := PB.out
  by_cases hst : Steep y1 P.p1 P.i1 y2 P.p2 P.i2 P.L
  · have HST := Lib.hid hst
    clear hst
    go_wp2_with fail
    refine (unbounded_any P y1 y2 HPS.out true ⟨fun _ => HST.out, fun _ => rfl⟩ _ PI2.out).mono ?_
    rintro e v2 ⟨rfl, hb⟩
    have hl2 : w.heap.size + 3 ≤ v2.heap.size := by have := hb.size; have := SZ1.out; have := PB.out.lt; omega
    obtain ⟨U1, hu1⟩ : ∃ U, ((((v2.setCell ⟨w.heap.size + 1 + 1, 0, none⟩ (.slice (some ⟨v2.heap.size, 0, none⟩) 1 1)).setCell ⟨w.heap.size + 1 + 1, 1, none⟩ (.int .i64 1)).setCell ⟨w.heap.size + 1 + 1, 2, none⟩ (.int .i64 0)).setCell ⟨w.heap.size + 1 + 1, 3, none⟩ (.slice none 0 0)) = U := ⟨_, rfl⟩
    obtain ⟨W3, hw3⟩ : ∃ W', U1.alloc (.cells #[.int .i64 4611686018427387904] 3) = W' := ⟨_, rfl⟩
    have hus : U1.heap.size = v2.heap.size := by rw [← hu1]; simp [World.setCell]
    have hbu : Below w.heap.size w U1 := by rw [← hu1]; exact below_set4 (HB2.out.trans (hb.mono HB2.out.size)) (by omega) _ _ _ _
    have hb3 : Below U1.heap.size U1 W3 := by rw [← hw3]; exact (Below.refl _ _).alloc (Nat.le_refl _) _
    have gu : G4 W3 (w.heap.size + 1 + 1) (.slice (some ⟨v2.heap.size, 0, none⟩) 1 1) (.int .i64 1) (.int .i64 0) (.slice none 0 0) := by
      have k := (KR2.out.below hb).set4 (.slice (some ⟨v2.heap.size, 0, none⟩) 1 1) (.int .i64 1) (.int .i64 0) (.slice none 0 0)
      have k2 : G4 U1 (w.heap.size + 1 + 1) (.slice (some ⟨v2.heap.size, 0, none⟩) 1 1) (.int .i64 1) (.int .i64 0) (.slice none 0 0) := by rw [← hu1]; exact k
      exact k2.below hb3
    have rw3 : RowZ W3 (some ⟨v2.heap.size, 0, none⟩) 1 1 [4611686018427387904] := by
      rw [← hw3, ← hus]
      refine ⟨rfl, Nat.le_refl _, by omega, by omega, fun i hi => ⟨_, rfl, ?_⟩, fun i hi => ?_⟩
      · obtain rfl : i = 0 := by omega
        exact new_cell U1 _ _
      · obtain rfl : i = 0 := by omega
        exact ⟨by decide, by decide⟩
    have HP := Lib.hid (show GivesGains y1 P.p1 P.i1 y2 P.p2 P.i2 P.L w (.returned (.tuple #[gainsV (some ⟨v2.heap.size, 0, none⟩) 1 1 (1 : Nat) 0 none 0 0, .int .i64 0])) W3 by
      refine ⟨_, _, _, [4611686018427387904], 1, 0, none, 0, 0, [], rfl, hbu.trans (hb3.mono hbu.size), rw3, rowZ_none _, ?_, fun _ => rfl, fun h => absurd HST.out h, fun x hx => (by cases hx; show w.heap.size ≤ v2.heap.size; omega), fun x hx => (by cases hx)⟩
      rw [show eDec y1 P.p1 P.i1 y2 P.p2 P.i2 = fun _ => none from funext fun t => dec_steep HD.out.g HD.out.k HD.out.h0 HD.out.m HST.out t]
      exact inf_form)
    clear c0 c1 c2 f0 f1 f2 c3 c4 c5 c6 c7 c8 c9 f3 f4 f5 f6 f7 f8 f9
    obtain ⟨⟨c0, c1, c2, f0, f1, f2⟩, c3, f3⟩ := KR2.out.below hb
    have HU := Lib.hid hu1
    have HW3 := Lib.hid hw3
    have GU := Lib.hid gu
    have ha : v2.heap.size ≠ w.heap.size + 2 := by omega
    have ha2 : w.heap.size + 2 < v2.heap.size := by omega
    clear hb hbu hb3 rw3 hw3 hl2 hu1 hus gu
    go_wp2_with fail
    try rw [HU.out]
    try rw [HW3.out]
    obtain ⟨⟨k0, k1, k2, _, _, _⟩, k3, _⟩ := GU.out
    exact bodyPost_ret (v := .tuple #[gainsV (some ⟨v2.heap.size, 0, none⟩) 1 1 (1 : Nat) 0 none 0 0, .int .i64 0]) (by simp [results, Try.results47, go_sem, k0, k1, k2, k3]) rfl (.inl HP.out)
  · have HST := Lib.hid hst
    clear hst
    have gp1 := HD.out.g.p1
    have gp2 := HD.out.g.p2
    have gp3 := HD.out.g.p3
    have gfew := HD.out.g.few
    go_wp2_with fail
    refine (unbounded_any P y1 y2 HPS.out false ⟨fun h => (by cases h), fun h => absurd h HST.out⟩ _ PI2.out).mono ?_
    rintro e v2 ⟨rfl, hb⟩
    have PB3 := Lib.hid (PB.out.below hb)
    have KR3 := Lib.hid (KR2.out.below hb)
    have HB3 := Lib.hid (HB2.out.trans (hb.mono HB2.out.size))
    have PI3 := Lib.hid (PI2.out.under hb)
    have SZ2 := Lib.hid (show v1.heap.size < v2.heap.size by have := hb.size; have := PB.out.lt; omega)
    clear hb c0 c1 c2 f0 f1 f2 c3 c4 c5 c6 c7 c8 c9 f3 f4 f5 f6 f7 f8 f9
    obtain ⟨⟨c0, c1, c2, f0, f1, f2⟩, c3, c4, c5, c6, c7, c8, c9, f3, f4, f5, f6, f7, f8, f9⟩ := PB3.out
    obtain ⟨s, hs⟩ : ∃ s, y1.length - P.p1 = s := ⟨_, rfl⟩
    have HS := Lib.hid (show y1.length = s + P.p1 by omega)
    have hs4 : s + P.p1 ≤ 400 := by omega
    obtain ⟨N, hN⟩ : ∃ N, s + 2 * P.p1 = N := ⟨_, rfl⟩
    have hNi : (s : Int) + 2 * (P.p1 : Int) = (N : Int) := by omega
    have hNw : IntKind.i64.wrap (N : Int) = (N : Int) := IntWalk.i64_in _ ⟨by omega, by omega⟩
    have hN5 : N ≤ 520 := by omega
    have HNN := Lib.hid hN
    have FO := Lib.hid (show FromOk (eDec y1 P.p1 P.i1 y2 P.p2 P.i2) s P.p1 by rw [← hs]; exact HD.out.from HST.out)
    clear hs hN
    go_wp2_with fail
    with_reducible refine (start_i P.a1 P.n1 P.cap1 y1 P.p1 P.i1 HPS.out.d.g HPS.out.n1 s HS.out _ PI3.out.r1).mono ?_
    rintro e v3 ⟨rfl, hb⟩
    have PB4 := Lib.hid (PB3.out.below hb)
    have KR4 := Lib.hid (KR3.out.below hb)
    have HB4 := Lib.hid (HB3.out.trans (hb.mono HB3.out.size))
    have PI4 := Lib.hid (PI3.out.under hb)
    have SZ3 := Lib.hid (show v1.heap.size < v3.heap.size by have := hb.size; have := SZ2.out; omega)
    clear hb c0 c1 c2 f0 f1 f2 c3 c4 c5 c6 c7 c8 c9 f3 f4 f5 f6 f7 f8 f9
    obtain ⟨⟨c0, c1, c2, f0, f1, f2⟩, c3, c4, c5, c6, c7, c8, c9, f3, f4, f5, f6, f7, f8, f9⟩ := PB4.out
    go_wp2_with fail
    with_reducible refine (bounds_any P y1 y2 HPS.out _ N rfl hN5 _ PI4.out).mono ?_
    rintro e v4 ⟨lv, la, rfl, hb, hlv, hla, hrv, hra⟩
    obtain ⟨W5, hw5⟩ : ∃ W', v4.alloc (.cells #[.slice (some ⟨lv, 0, none⟩) N N] 22) = W' := ⟨_, rfl⟩
    have hz5 : Below v4.heap.size v4 W5 := by rw [← hw5]; exact (Below.refl _ _).alloc (Nat.le_refl _) _
    have hb5 : Below v3.heap.size v3 W5 := hb.trans (hz5.mono hb.size)
    have PB5 := Lib.hid (PB4.out.below hb5)
    have KR5 := Lib.hid (KR4.out.below hb5)
    have HB5 := Lib.hid (HB4.out.trans (hb5.mono HB4.out.size))
    have PI5 := Lib.hid (PI4.out.under hb5)
    have RV := Lib.hid (And.intro (hrv.under hz5) (hra.under hz5))
    have BV := Lib.hid (show W5.cell? ⟨v4.heap.size, 0, none⟩ = some (.slice (some ⟨lv, 0, none⟩) N N) by rw [← hw5]; exact new_cell v4 _ _)
    have LA := Lib.hid (show v1.heap.size < la ∧ v1.heap.size < v4.heap.size by have := SZ3.out; have := hb.size; exact ⟨by omega, by omega⟩)
    have HW5 := Lib.hid hw5
    clear hb hlv hla hrv hra hw5 hz5 hb5 c0 c1 c2 f0 f1 f2 c3 c4 c5 c6 c7 c8 c9 f3 f4 f5 f6 f7 f8 f9
    go_upto_region 8 with fail
    try rw [HW5.out]
    obtain ⟨⟨c0, c1, c2, f0, f1, f2⟩, c3, c4, c5, c6, c7, c8, c9, f3, f4, f5, f6, f7, f8, f9⟩ := PB5.out
    have EX := Lib.hid (show ∀ (args : Array Value) (w : World), (callFunc 91 args).run Try.prog w = .ok (.enter 91 args) w from enters_of Try.func91 (by kernel_rfl) rfl)
    have HCG := Lib.hid (show ClosG 91 #[.pointer (some ⟨v4.heap.size, 0, none⟩)] (s + 2 * P.p1) (encF (eDec y1 P.p1 P.i1 y2 P.p2 P.i2)) W5 from by
      have h := prove1_any BV.out RV.out.1 (by omega)
      rw [HNN.out]
      exact h.congr fun t ht => by rw [HPS.out.r]; exact ((HD.out.val HST.out (by omega)).1).symm)
    obtain ⟨c, hc⟩ := FO.out.per
    have HPer := Lib.hid hc
    clear hc
    go_wp2_with fail
    refine (pcurve_i 91 #[.pointer (some ⟨v4.heap.size, 0, none⟩)] (encF (eDec y1 P.p1 P.i1 y2 P.p2 P.i2)) s s rfl P.p1 c gp1 gp2 (by omega) FO.out.mid HPer.out _ EX.out HCG.out).mono ?_
    rintro e v6 ⟨hb6, ⟨a5, n5, cap5, zs5, p5, inc5, rfl, hr5, hf5, hx5⟩ | ⟨rfl, hno5⟩⟩
    · obtain ⟨W7, hw7⟩ : ∃ W', v6.alloc (.cells #[.slice a5 n5 cap5, .int .i64 p5, .int .i64 inc5] 24) = W' := ⟨_, rfl⟩
      have hz7 : Below v6.heap.size v6 W7 := by rw [← hw7]; exact (Below.refl _ _).alloc (Nat.le_refl _) _
      have hb7 : Below W5.heap.size W5 W7 := hb6.trans (hz7.mono hb6.size)
      have hf := eform_of FO.out.tame hf5
      obtain ⟨s5, hs5, hns5⟩ := norm_self hf
      have P7 := Lib.hid (show PS w P y1 y2 v1.heap.size v6.heap.size la N (fun t => ((firstTo (atC y1 P.p1 P.i1) (atC y2 P.p2 P.i2) t P.R : Nat) : Int)) a5 n5 cap5 p5 inc5 zs5 W7.drew from
        PS.call (u := W7) ⟨by rw [← hw7]; exact Bx.new hr5, PB5.out.below hb7, KR5.out.below hb7, PI5.out.under hb7, RV.out.2.under hb7, HB5.out.trans (hb7.mono HB5.out.size)⟩ (Below.refl _ _).drew)
      have HF := Lib.hid hf
      have HS5 := Lib.hid hns5
      have hle5 := form_start hf HPer.out gp1
      have HX := Lib.hid (show ∀ x, a5 = some x → w.heap.size + 3 ≤ x.block from fun x hx => by have := hx5 x hx; have := SZ1.out; have := PB5.out.lt; omega)
      have HXE := Lib.hid (show max (y1.length - P.p1) (zs5.length - p5) + P.p1 = s + P.p1 by have := HS.out; omega)
      have HW7 := Lib.hid hw7
      clear hb6 hr5 hf5 hx5 hw7 hz7 hb7 hf hs5 hns5 hle5
      clear c0 c1 c2 f0 f1 f2 c3 c4 c5 c6 c7 c8 c9 f3 f4 f5 f6 f7 f8 f9
      obtain ⟨x, hx⟩ : ∃ x, s + P.p1 = x := ⟨_, rfl⟩
      have hxN : x ≤ N := by have := HNN.out; omega
      have hxi : (x : Int) ≤ (N : Int) := by omega
      have hx0 : (0 : Int) ≤ (x : Int) := by omega
      rw [hx] at HXE
      have HXX := Lib.hid hx
      clear hx
      go_upto_region 11 with fail
      try rw [HW7.out]
      have HIN := Lib.hid (show ∀ i, In64 (((firstTo (atC y1 P.p1 P.i1) (atC y2 P.p2 P.i2) i P.R : Nat) : Int)) from fun i => by
        have h1 := first_at (F := atC y1 P.p1 P.i1) (G := atC y2 P.p2 P.i2) (t := i) (n := P.R) (by rw [HPS.out.r]; exact HD.out.reach1) (HD.out.first0 i) HD.out.h0
        have h2 : P.R ≤ 519 := by rw [HPS.out.r]; exact HD.out.reach_le
        exact ⟨by omega, by omega⟩)
      refine wp_region_keeps (fun u => PSS w P y1 y2 v1.heap.size v6.heap.size la N (fun t => ((firstTo (atC y1 P.p1 P.i1) (atC y2 P.p2 P.i2) t P.R : Nat) : Int)) a5 n5 cap5 p5 inc5 zs5 u) 8 2 (by kernel_rfl) (by kernel_rfl) (pss_of P7.out) (fun hHeld0 => ?_)
      refine wpAnyK_take (i := 0) (v := ?_) rfl (by kernel_rfl) (fun _ _ _ h => h) (Or.inl ⟨by rfl, ?_⟩) (by assumption) ?_
      rotate_left
      · (intro w hSw; (try dsimp only at hSw); go_simp; try with_reducible rfl)
      try simp only [Act.put, List.getElem_toArray, List.getElem_cons_zero, List.getElem_cons_succ, List.setIfInBounds_toArray, List.set_cons_zero, List.set_cons_succ]
      refine wpAnyK_take (i := 1) (v := ?_) rfl (by kernel_rfl) (fun _ _ _ h => h) (Or.inl ⟨by rfl, ?_⟩) (by assumption) ?_
      rotate_left
      · (intro w hSw; (try dsimp only at hSw); go_simp; try with_reducible rfl)
      try simp only [Act.put, List.getElem_toArray, List.getElem_cons_zero, List.getElem_cons_succ, List.setIfInBounds_toArray, List.set_cons_zero, List.set_cons_succ]
      refine wpAnyK_take (i := 2) (v := ?_) rfl (by kernel_rfl) (fun _ _ _ h => h) (Or.inl ⟨by rfl, ?_⟩) (by assumption) ?_
      rotate_left
      · (intro w hSw; (try dsimp only at hSw); go_simp; try with_reducible rfl)
      try simp only [Act.put, List.getElem_toArray, List.getElem_cons_zero, List.getElem_cons_succ, List.setIfInBounds_toArray, List.set_cons_zero, List.set_cons_succ]
      refine wpAnyK_take (i := 3) (v := ?_) rfl (by kernel_rfl) (fun _ _ _ h => h) (Or.inl ⟨by rfl, ?_⟩) (by assumption) ?_
      rotate_left
      · (intro w hSw; (try dsimp only at hSw); go_simp; try with_reducible rfl)
      try simp only [Act.put, List.getElem_toArray, List.getElem_cons_zero, List.getElem_cons_succ, List.setIfInBounds_toArray, List.set_cons_zero, List.set_cons_succ]
      refine wpAnyK_step (i := 4) rfl (by kernel_rfl) (fun K hK => ?_)
      go_simp
      with_reducible refine (extent_any P y1 y2 a5 n5 cap5 zs5 p5 inc5 HPS.out HF.out.good HS5.out x HXE.out _ P7.out.i P7.out.bx.row).mono ?_
      rintro e u3 ⟨rfl, hb⟩
      have T1 := Lib.hid (P7.out.call hb)
      clear hb
      refine hK.out _ _ (pss_of T1.out) (fun hHeld1 => ?_)
      clear hK K hHeld0
      try simp only [Act.put, List.getElem_toArray, List.getElem_cons_zero, List.getElem_cons_succ, List.setIfInBounds_toArray, List.set_cons_zero, List.set_cons_succ]
      refine wpAnyK_take (i := 5) (v := ?_) rfl (by kernel_rfl) (fun _ _ _ h => h) (Or.inl ⟨by rfl, ?_⟩) (by assumption) ?_
      rotate_left
      · (intro w hSw; (try dsimp only at hSw); go_simp; try with_reducible rfl)
      try simp only [Act.put, List.getElem_toArray, List.getElem_cons_zero, List.getElem_cons_succ, List.setIfInBounds_toArray, List.set_cons_zero, List.set_cons_succ]
      refine wpAnyK_step (i := 6) rfl (by kernel_rfl) (fun K hK => ?_)
      go_simp
      with_reducible refine (clone_any ⟨la, 0, none⟩ x N (firsts (fun t => ((firstTo (atC y1 P.p1 P.i1) (atC y2 P.p2 P.i2) t P.R : Nat) : Int)) x) _ (T1.out.ra.rowZ hxN (by omega) (fun i hi => HIN.out i)) (by omega)).mono ?_
      rintro e u4 ⟨at4, cap4, rfl, hb, hr, hx⟩
      have T2 := Lib.hid (T1.out.call hb)
      have RT := Lib.hid (And.intro hr (show ∀ y, at4 = some y → w.heap.size + 3 ≤ y.block from fun y hy => by have := hx y hy; have := SZ1.out; have := T1.out.pr.lt; omega))
      clear hb hr hx
      refine hK.out _ _ (pss_of T2.out) (fun hHeld2 => ?_)
      clear hK K hHeld1
      try simp only [Act.put, List.getElem_toArray, List.getElem_cons_zero, List.getElem_cons_succ, List.setIfInBounds_toArray, List.set_cons_zero, List.set_cons_succ]
      refine wpAnyK_take (i := 7) (v := ?_) rfl (by kernel_rfl) (fun _ _ _ h => h) (Or.inl ⟨by rfl, ?_⟩) (by assumption) ?_
      rotate_left
      · (intro w hSw; (try dsimp only at hSw); go_simp; try with_reducible rfl)
      try simp only [Act.put, List.getElem_toArray, List.getElem_cons_zero, List.getElem_cons_succ, List.setIfInBounds_toArray, List.set_cons_zero, List.set_cons_succ]
      refine wpAnyK_done (by kernel_rfl) ?_
      simp only [List.drop_succ_cons, List.drop_zero]
      clear hHeld2
      have HP := Lib.hid (show GivesGains y1 P.p1 P.i1 y2 P.p2 P.i2 P.L w (.returned (.tuple #[gainsV a5 n5 cap5 p5 inc5 at4 x cap4, .int .i64 0])) (((((u4.setCell ⟨w.heap.size + 2, 0, none⟩ (.slice a5 n5 cap5)).setCell ⟨w.heap.size + 2, 1, none⟩ (.int .i64 p5)).setCell ⟨w.heap.size + 2, 2, none⟩ (.int .i64 inc5)).setCell ⟨w.heap.size + 2, 3, none⟩ (.slice at4 x cap4))) by
        have q1 : ∀ y, a5 = some y → 1 ≤ n5 → y.block ≠ w.heap.size + 2 := fun y hy _ => by have := HX.out y hy; omega
        have q2 : ∀ y, at4 = some y → 1 ≤ x → y.block ≠ w.heap.size + 2 := fun y hy _ => by have := RT.out.2 y hy; omega
        refine ⟨a5, n5, cap5, zs5, p5, inc5, at4, x, cap4, _, rfl, below_set4 T2.out.below (by omega) _ _ _ _, (((T2.out.bx.row.store q1 _ _).store q1 _ _).store q1 _ _).store q1 _ _, (((RT.out.1.store q2 _ _).store q2 _ _).store q2 _ _).store q2 _ _, HF.out, fun h => absurd h HST.out, fun _ => ?_, fun y hy => (by have := HX.out y hy; omega), fun y hy => (by have := RT.out.2 y hy; omega)⟩
        rw [HPS.out.r, HS.out, HXX.out])
      obtain ⟨⟨c0, c1, c2, f0, f1, f2⟩, c3, f3⟩ := T2.out.kr
      go_wp2_with fail
      exact bodyPost_ret (v := .tuple #[gainsV a5 n5 cap5 p5 inc5 at4 x cap4, .int .i64 0]) (by simp [results, Try.results47, go_sem, c0, c1, c2, c3]) rfl (.inl HP.out)
    · obtain ⟨W7, hw7⟩ : ∃ W', v6.alloc (.cells #[.slice none 0 0, .int .i64 0, .int .i64 0] 24) = W' := ⟨_, rfl⟩
      have hz7 : Below v6.heap.size v6 W7 := by rw [← hw7]; exact (Below.refl _ _).alloc (Nat.le_refl _) _
      have hb7 : Below W5.heap.size W5 W7 := hb6.trans (hz7.mono hb6.size)
      have KR7 := Lib.hid (KR5.out.below hb7)
      have HB7 := Lib.hid (HB5.out.trans (hb7.mono HB5.out.size))
      have HNO := Lib.hid (show ¬ ECan (eDec y1 P.p1 P.i1 y2 P.p2 P.i2) from fun h => hno5 h.can)
      have HW7 := Lib.hid hw7
      clear hb6 hno5 hw7 hz7 hb7 c0 c1 c2 f0 f1 f2 c3 c4 c5 c6 c7 c8 c9 f3 f4 f5 f6 f7 f8 f9
      go_upto_region 9 with fail
      try rw [HW7.out]
      have HP := Lib.hid (show Below w.heap.size w (((((W7.setCell ⟨w.heap.size + 2, 0, none⟩ (.slice none 0 0)).setCell ⟨w.heap.size + 2, 1, none⟩ (.int .i64 0)).setCell ⟨w.heap.size + 2, 2, none⟩ (.int .i64 0)).setCell ⟨w.heap.size + 2, 3, none⟩ (.slice none 0 0))) from below_set4 HB7.out (by omega) _ _ _ _)
      obtain ⟨⟨c0, c1, c2, f0, f1, f2⟩, c3, f3⟩ := KR7.out
      go_wp2_with fail
      exact bodyPost_ret (v := .tuple #[.agg #[.slice none 0 0, .int .i64 0, .int .i64 0, .slice none 0 0], .int .i64 3]) (by simp [results, Try.results47, go_sem, c0, c1, c2, c3]) rfl (.inr ⟨rfl, HP.out, HNO.out⟩)

/-- Normal forms, and what they keep to. -/
theorem dec_of {z1 z2 : List Int} {p1 p2 : Nat} {i1 i2 : Int} (g1 : Good z1 p1 i1) (g2 : Good z2 p2 i2) (h0 : atC z2 p2 i2 0 = 0) {L : Nat} (hL : LcmN z1 p1 i1 z2 p2 i2 L) (hL2 : L ≤ 120) :
    ∃ y1 q1 j1 y2 q2 j2, NormC z1 p1 i1 y1 q1 j1 ∧ NormC z2 p2 i2 y2 q2 j2 ∧ q1 / Nat.gcd q1 q2 * q2 = L ∧ Dec y1 q1 j1 y2 q2 j2 L ∧ eDec y1 q1 j1 y2 q2 j2 = eDec z1 p1 i1 z2 p2 i2 := by
  obtain ⟨y1, q1, j1, y2, q2, j2, hn1, hn2, hLL⟩ := hL
  have k1 := hn1.eform g1
  have k2 := hn2.eform g2
  refine ⟨y1, q1, j1, y2, q2, j2, hn1, hn2, hLL, ⟨k1.1, k2.1, (hn2.values g2 0).trans h0, k1.2.2, k2.2.2, (lcm_of k1.1.p1 k2.1.p1 hLL).mult, hL2⟩, ?_⟩
  unfold eDec
  rw [funext k1.2.1, funext k2.2.1]

set_option maxRecDepth 100000 in
set_option maxHeartbeats 3200000 in
theorem dof_ok (a1 : Option Addr) (n1 cap1 : Nat) (z1 : List Int) (p1 : Nat) (i1 : Int) (g1 : Good z1 p1 i1) (a2 : Option Addr) (n2 cap2 : Nat) (z2 : List Int) (p2 : Nat) (i2 : Int) (g2 : Good z2 p2 i2) (h0 : atC z2 p2 i2 0 = 0) (L : Nat) (hL : LcmN z1 p1 i1 z2 p2 i2 L) (hL2 : L ≤ 120) (w : World) (h1 : RowZ w a1 n1 cap1 z1) (h2 : RowZ w a2 n2 cap2 z2) :
    Calls Try.prog 45 #[curV a1 n1 cap1 p1 i1, curV a2 n2 cap2 p2 i2] w (GivesE (eDec z1 p1 i1 z2 p2 i2) w) := by
  obtain ⟨y1, q1, j1, y2, q2, j2, hn1, hn2, hLL, hd, he⟩ := dec_of g1 g2 h0 hL hL2
  have HE := Lib.hid he
  have HG := Lib.hid (And.intro g1 g2)
  have HN := Lib.hid (And.intro hn1 hn2)
  have HLL := Lib.hid hLL
  have HD := Lib.hid hd
  obtain ⟨W, hW⟩ : ∃ W, ((w.alloc (.cells #[.slice a1 n1 cap1, .int .i64 p1, .int .i64 i1] 24)).alloc (.cells #[.slice a2 n2 cap2, .int .i64 p2, .int .i64 i2] 24)).alloc (.cells #[.slice none 0 0, .int .i64 0, .int .i64 0] 24) = W := ⟨_, rfl⟩
  obtain ⟨⟨hB, hWs⟩, m1, m2, mr⟩ := boxesB w a1 n1 cap1 p1 i1 a2 n2 cap2 p2 i2 hW
  have HB := Lib.hid hB
  have KR := Lib.hid mr
  have HR := Lib.hid (And.intro (h1.under hB) (h2.under hB))
  have HWS := Lib.hid hWs
  have HW := Lib.hid hW
  obtain ⟨c0, c1, c2, f0, f1, f2⟩ := m1
  obtain ⟨d0, d1, d2, e0, e1, e2⟩ := m2
  clear g1 g2 h0 hn1 hn2 hLL hd he hL hL2 h1 h2 hB mr hWs hW
  go_enter Try.func45, Try.ntmps45
  go_wp2_with fail
  try rw [HW.out]
  clear c0 c1 c2 f0 f1 f2 d0 d1 d2 e0 e1 e2
  refine (dprove_ok a1 n1 cap1 z1 p1 i1 HG.out.1 a2 n2 cap2 z2 p2 i2 HG.out.2 HN.out.1 HN.out.2 L HLL.out HD.out _ HR.out.1 HR.out.2).mono ?_
  rintro e v1 (⟨a5, n5, cap5, zs5, p5, inc5, at5, m5, mc5, ts5, rfl, hb, hr5, _, hf5, _, _, hx5, _⟩ | ⟨rfl, hb, hno⟩)
  · obtain ⟨W2, hw⟩ : ∃ W2, v1.alloc (.cells #[.slice a5 n5 cap5, .int .i64 p5, .int .i64 inc5, .slice at5 m5 mc5] 57) = W2 := ⟨_, rfl⟩
    have hz : Below v1.heap.size v1 W2 := by rw [← hw]; exact (Below.refl _ _).alloc (Nat.le_refl _) _
    have hWz : Below W.heap.size W W2 := hb.trans (hz.mono hb.size)
    have GB := Lib.hid (show G4 W2 v1.heap.size (.slice a5 n5 cap5) (.int .i64 p5) (.int .i64 inc5) (.slice at5 m5 mc5) by rw [← hw]; exact g4_new v1 _ _ _ _ _)
    have HP := Lib.hid (GivesE.post (b := w.heap.size + 2) HB.out (by omega) KR.out.lt hWz (hr5.under hz) hx5 (HE.out ▸ hf5))
    have KR2 := Lib.hid (KR.out.below hWz)
    have HW2 := Lib.hid hw
    clear hb hr5 hf5 hx5 hz hw hWz
    go_upto_region 2 with fail
    try rw [HW2.out]
    obtain ⟨⟨c0, c1, c2, f0, f1, f2⟩, c3, f3⟩ := GB.out
    obtain ⟨d0, d1, d2, e0, e1, e2⟩ := KR2.out
    go_wp2_with fail
    exact bodyPost_ret (v := .tuple #[curV a5 n5 cap5 p5 inc5, .int .i64 0]) (by simp [results, Try.results45, go_sem, d0, d1, d2]) rfl HP.out
  · obtain ⟨W2, hw⟩ : ∃ W2, v1.alloc (.cells #[.slice none 0 0, .int .i64 0, .int .i64 0, .slice none 0 0] 57) = W2 := ⟨_, rfl⟩
    have hz : Below v1.heap.size v1 W2 := by rw [← hw]; exact (Below.refl _ _).alloc (Nat.le_refl _) _
    have hWz : Below W.heap.size W W2 := hb.trans (hz.mono hb.size)
    have GB := Lib.hid (show G4 W2 v1.heap.size (.slice none 0 0) (.int .i64 0) (.int .i64 0) (.slice none 0 0) by rw [← hw]; exact g4_new v1 _ _ _ _ _)
    have HP := Lib.hid (GivesE.postNo (b := w.heap.size + 2) HB.out (by omega) hWz (HE.out ▸ hno))
    have KR2 := Lib.hid (KR.out.below hWz)
    have HW2 := Lib.hid hw
    clear hb hno hz hw hWz
    go_upto_region 2 with fail
    try rw [HW2.out]
    obtain ⟨⟨c0, c1, c2, f0, f1, f2⟩, c3, f3⟩ := GB.out
    obtain ⟨d0, d1, d2, e0, e1, e2⟩ := KR2.out
    go_wp2_with fail
    exact bodyPost_ret (v := .tuple #[curV none 0 0 0 0, .int .i64 3]) (by simp [results, Try.results45, go_sem, d0, d1, d2]) rfl HP.out

end Go.Proofs.Ytcbocglakielnaa

namespace Go.Proofs.Ytcbocglakielnaa
open Go.RowKit
set_option linter.unusedSimpArgs false
set_option linter.unusedVariables false

set_option maxRecDepth 100000 in
set_option maxHeartbeats 3200000 in
theorem grows_any8 (P : PV) (z1 z2 : List Int) (ha : Option Addr) (hn hcap : Nat) (hs : List Int) (r : Nat) (knc : Int) (hP : PIs P z1 z2) (hg : Good hs r knc) (b : Bool) (hb : b = true ↔ (P.p1 % r = 0 ∧ growI hs r knc P.p1 = growI z1 P.p1 P.i1 P.p1)) (w : World) (h : PIn P z1 z2 w) (hr : RowZ w ha hn hcap hs) :
    Calls Try.prog 98 #[dpV P, curV ha hn hcap r knc] w (Says (.bool b) w) := by
  obtain ⟨W, hW⟩ : ∃ W, (w.alloc (dpO P)).alloc (.cells #[.slice ha hn hcap, .int .i64 r, .int .i64 knc] 24) = W := ⟨_, rfl⟩
  have tt := twoH_start h hr hW
  have T0 := Lib.hid (show TwoH w P z1 z2 ha hn hcap hs r knc W.drew from tt.call (Below.refl _ _).drew)
  have HW := Lib.hid hW
  have HP := Lib.hid hP
  have HG := Lib.hid hg
  have b1 := hP.d.g.p1
  have b2 := hP.d.g.p2
  have b3 := hg.p1
  have b4 := hg.p2
  obtain ⟨m, hm⟩ : ∃ m, P.p1 % r = m := ⟨_, rfl⟩
  have hm2 : m ≤ 120 := by rw [← hm]; exact Nat.le_trans (Nat.mod_le _ _) b2
  have e1 : (P.p1 : Int).tmod (r : Int) = (m : Int) := by rw [Int.tmod_eq_emod_of_nonneg (by omega)]; omega
  have e4 : (P.p1 : Int) % (r : Int) = (m : Int) := by omega
  have e2 : ¬ (r : Int) = 0 := by omega
  have e3 : ¬ r = 0 := by omega
  rw [hm] at hb
  obtain ⟨x, hx⟩ : ∃ x, growI hs r knc P.p1 = x := ⟨_, rfl⟩
  obtain ⟨y, hy⟩ : ∃ y, growI z1 P.p1 P.i1 P.p1 = y := ⟨_, rfl⟩
  rw [hx, hy] at hb
  have HX := Lib.hid (And.intro hx hy)
  obtain ⟨⟨c0, c1, c2, f0, f1, f2⟩, _⟩ := tt.pr
  obtain ⟨d0, d1, d2, g0, g1, g2⟩ := tt.hc
  clear tt h hr hW hP hg hm hx hy
  by_cases hm0 : m = 0
  · have m1 : ((m : Int) == 0) = true := by rw [hm0]; rfl
    have hb2 : b = true ↔ x = y := ⟨fun k => (hb.1 k).2, fun k => hb.2 ⟨hm0, k⟩⟩
    have hcase : (x = y ∧ b = true) ∨ (¬ x = y ∧ b = false) := by
      by_cases he : x = y
      · exact .inl ⟨he, hb2.2 he⟩
      · refine .inr ⟨he, ?_⟩
        cases b with
        | false => rfl
        | true => exact absurd (hb2.1 rfl) he
    clear hb hb2
    have HM0 := Lib.hid hm0
    clear hm0
    rcases hcase with ⟨he, rfl⟩ | ⟨he, rfl⟩
    · have t5 : (x == y) = true := by simpa using he
      clear he
      go_enter Try.func98, Try.ntmps98
      go_upto_region 1 with fail
      try rw [HW.out]
      go_upto_region 2 with fail
      clear c0 c1 c2 f0 f1 f2 d0 d1 d2 g0 g1 g2
      refine wp_region_keeps (fun u => TwoHS w P z1 z2 ha hn hcap hs r knc u) 15 1 (by kernel_rfl) (by kernel_rfl) (twoHS_of T0.out) (fun hHeld0 => ?_)
      refine wpAnyK_take (i := 0) (v := ?_) rfl (by kernel_rfl) (fun _ _ _ h => h) (Or.inl ⟨by rfl, ?_⟩) (by assumption) ?_
      rotate_left
      · (intro w hSw; (try dsimp only at hSw); go_simp; try with_reducible rfl)
      try simp only [Act.put, List.getElem_toArray, List.getElem_cons_zero, List.getElem_cons_succ, List.setIfInBounds_toArray, List.set_cons_zero, List.set_cons_succ]
      refine wpAnyK_take (i := 1) (v := ?_) rfl (by kernel_rfl) (fun _ _ _ h => h) (Or.inl ⟨by rfl, ?_⟩) (by assumption) ?_
      rotate_left
      · (intro w hSw; (try dsimp only at hSw); go_simp; try with_reducible rfl)
      try simp only [Act.put, List.getElem_toArray, List.getElem_cons_zero, List.getElem_cons_succ, List.setIfInBounds_toArray, List.set_cons_zero, List.set_cons_succ]
      refine wpAnyK_take (i := 2) (v := ?_) rfl (by kernel_rfl) (fun _ _ _ h => h) (Or.inl ⟨by rfl, ?_⟩) (by assumption) ?_
      rotate_left
      · (intro w hSw; (try dsimp only at hSw); go_simp; try with_reducible rfl)
      try simp only [Act.put, List.getElem_toArray, List.getElem_cons_zero, List.getElem_cons_succ, List.setIfInBounds_toArray, List.set_cons_zero, List.set_cons_succ]
      refine wpAnyK_take (i := 3) (v := ?_) rfl (by kernel_rfl) (fun _ _ _ h => h) (Or.inl ⟨by rfl, ?_⟩) (by assumption) ?_
      rotate_left
      · (intro w hSw; (try dsimp only at hSw); go_simp; try with_reducible rfl)
      try simp only [Act.put, List.getElem_toArray, List.getElem_cons_zero, List.getElem_cons_succ, List.setIfInBounds_toArray, List.set_cons_zero, List.set_cons_succ]
      refine wpAnyK_take (i := 4) (v := ?_) rfl (by kernel_rfl) (fun _ _ _ h => h) (Or.inl ⟨by rfl, ?_⟩) (by assumption) ?_
      rotate_left
      · (intro w hSw; (try dsimp only at hSw); go_simp; try with_reducible rfl)
      try simp only [Act.put, List.getElem_toArray, List.getElem_cons_zero, List.getElem_cons_succ, List.setIfInBounds_toArray, List.set_cons_zero, List.set_cons_succ]
      refine wpAnyK_take (i := 5) (v := ?_) rfl (by kernel_rfl) (fun _ _ _ h => h) (Or.inl ⟨by rfl, ?_⟩) (by assumption) ?_
      rotate_left
      · (intro w hSw; (try dsimp only at hSw); go_simp; try with_reducible rfl)
      try simp only [Act.put, List.getElem_toArray, List.getElem_cons_zero, List.getElem_cons_succ, List.setIfInBounds_toArray, List.set_cons_zero, List.set_cons_succ]
      refine wpAnyK_take (i := 6) (v := ?_) rfl (by kernel_rfl) (fun _ _ _ h => h) (Or.inl ⟨by rfl, ?_⟩) (by assumption) ?_
      rotate_left
      · (intro w hSw; (try dsimp only at hSw); go_simp; try with_reducible rfl)
      try simp only [Act.put, List.getElem_toArray, List.getElem_cons_zero, List.getElem_cons_succ, List.setIfInBounds_toArray, List.set_cons_zero, List.set_cons_succ]
      refine wpAnyK_take (i := 7) (v := ?_) rfl (by kernel_rfl) (fun _ _ _ h => h) (Or.inl ⟨by rfl, ?_⟩) (by assumption) ?_
      rotate_left
      · (intro w hSw; (try dsimp only at hSw); go_simp; try with_reducible rfl)
      try simp only [Act.put, List.getElem_toArray, List.getElem_cons_zero, List.getElem_cons_succ, List.setIfInBounds_toArray, List.set_cons_zero, List.set_cons_succ]
      refine wpAnyK_take (i := 9) (v := ?_) rfl (by kernel_rfl) (fun _ _ _ h => h) (Or.inl ⟨by rfl, ?_⟩) (by assumption) ?_
      rotate_left
      · (intro w hSw; (try dsimp only at hSw); go_simp; try with_reducible rfl)
      try simp only [Act.put, List.getElem_toArray, List.getElem_cons_zero, List.getElem_cons_succ, List.setIfInBounds_toArray, List.set_cons_zero, List.set_cons_succ]
      refine wpAnyK_take (i := 10) (v := ?_) rfl (by kernel_rfl) (fun _ _ _ h => h) (Or.inl ⟨by rfl, ?_⟩) (by assumption) ?_
      rotate_left
      · (intro w hSw; (try dsimp only at hSw); go_simp; try with_reducible rfl)
      try simp only [Act.put, List.getElem_toArray, List.getElem_cons_zero, List.getElem_cons_succ, List.setIfInBounds_toArray, List.set_cons_zero, List.set_cons_succ]
      refine wpAnyK_take (i := 11) (v := ?_) rfl (by kernel_rfl) (fun _ _ _ h => h) (Or.inl ⟨by rfl, ?_⟩) (by assumption) ?_
      rotate_left
      · (intro w hSw; (try dsimp only at hSw); go_simp; try with_reducible rfl)
      try simp only [Act.put, List.getElem_toArray, List.getElem_cons_zero, List.getElem_cons_succ, List.setIfInBounds_toArray, List.set_cons_zero, List.set_cons_succ]
      refine wpAnyK_step (i := 8) rfl (by kernel_rfl) (fun K hK => ?_)
      go_simp
      with_reducible refine (growth_any ha hn hcap hs r knc HG.out P.p1 b2 x HX.out.1 _ T0.out.hr).mono ?_
      rintro e u3 ⟨rfl, hb⟩
      have T1 := Lib.hid (T0.out.call hb)
      clear hb
      refine hK.out _ _ (twoHS_of T1.out) (fun hHeld1 => ?_)
      clear hK K hHeld0
      try simp only [Act.put, List.getElem_toArray, List.getElem_cons_zero, List.getElem_cons_succ, List.setIfInBounds_toArray, List.set_cons_zero, List.set_cons_succ]
      refine wpAnyK_step (i := 12) rfl (by kernel_rfl) (fun K hK => ?_)
      go_simp
      with_reducible refine (growth_any P.a1 P.n1 P.cap1 z1 P.p1 P.i1 HP.out.d.g P.p1 b2 y HX.out.2 _ T1.out.i.r1).mono ?_
      rintro e u4 ⟨rfl, hb⟩
      have T2 := Lib.hid (T1.out.call hb)
      clear hb
      refine hK.out _ _ (twoHS_of T2.out) (fun hHeld2 => ?_)
      clear hK K hHeld1
      try simp only [Act.put, List.getElem_toArray, List.getElem_cons_zero, List.getElem_cons_succ, List.setIfInBounds_toArray, List.set_cons_zero, List.set_cons_succ]
      refine wpAnyK_take (i := 13) (v := ?_) rfl (by kernel_rfl) (fun _ _ _ h => h) (Or.inl ⟨by rfl, ?_⟩) (by assumption) ?_
      rotate_left
      · (intro w hSw; (try dsimp only at hSw); go_simp; try with_reducible rfl)
      try simp only [Act.put, List.getElem_toArray, List.getElem_cons_zero, List.getElem_cons_succ, List.setIfInBounds_toArray, List.set_cons_zero, List.set_cons_succ]
      refine wpAnyK_take (i := 14) (v := ?_) rfl (by kernel_rfl) (fun _ _ _ h => h) (Or.inl ⟨by rfl, ?_⟩) (by assumption) ?_
      rotate_left
      · (intro w hSw; (try dsimp only at hSw); go_simp; try with_reducible rfl)
      try simp only [Act.put, List.getElem_toArray, List.getElem_cons_zero, List.getElem_cons_succ, List.setIfInBounds_toArray, List.set_cons_zero, List.set_cons_succ]
      refine wpAnyK_done (by kernel_rfl) ?_
      simp only [List.drop_succ_cons, List.drop_zero]
      clear hHeld2
      go_wp2_with fail
      go_ret
      exact ⟨rfl, T2.out.below⟩
    · have t5 : (x == y) = false := by simpa using he
      clear he
      go_enter Try.func98, Try.ntmps98
      go_upto_region 1 with fail
      try rw [HW.out]
      go_upto_region 2 with fail
      clear c0 c1 c2 f0 f1 f2 d0 d1 d2 g0 g1 g2
      refine wp_region_keeps (fun u => TwoHS w P z1 z2 ha hn hcap hs r knc u) 15 1 (by kernel_rfl) (by kernel_rfl) (twoHS_of T0.out) (fun hHeld0 => ?_)
      refine wpAnyK_take (i := 0) (v := ?_) rfl (by kernel_rfl) (fun _ _ _ h => h) (Or.inl ⟨by rfl, ?_⟩) (by assumption) ?_
      rotate_left
      · (intro w hSw; (try dsimp only at hSw); go_simp; try with_reducible rfl)
      try simp only [Act.put, List.getElem_toArray, List.getElem_cons_zero, List.getElem_cons_succ, List.setIfInBounds_toArray, List.set_cons_zero, List.set_cons_succ]
      refine wpAnyK_take (i := 1) (v := ?_) rfl (by kernel_rfl) (fun _ _ _ h => h) (Or.inl ⟨by rfl, ?_⟩) (by assumption) ?_
      rotate_left
      · (intro w hSw; (try dsimp only at hSw); go_simp; try with_reducible rfl)
      try simp only [Act.put, List.getElem_toArray, List.getElem_cons_zero, List.getElem_cons_succ, List.setIfInBounds_toArray, List.set_cons_zero, List.set_cons_succ]
      refine wpAnyK_take (i := 2) (v := ?_) rfl (by kernel_rfl) (fun _ _ _ h => h) (Or.inl ⟨by rfl, ?_⟩) (by assumption) ?_
      rotate_left
      · (intro w hSw; (try dsimp only at hSw); go_simp; try with_reducible rfl)
      try simp only [Act.put, List.getElem_toArray, List.getElem_cons_zero, List.getElem_cons_succ, List.setIfInBounds_toArray, List.set_cons_zero, List.set_cons_succ]
      refine wpAnyK_take (i := 3) (v := ?_) rfl (by kernel_rfl) (fun _ _ _ h => h) (Or.inl ⟨by rfl, ?_⟩) (by assumption) ?_
      rotate_left
      · (intro w hSw; (try dsimp only at hSw); go_simp; try with_reducible rfl)
      try simp only [Act.put, List.getElem_toArray, List.getElem_cons_zero, List.getElem_cons_succ, List.setIfInBounds_toArray, List.set_cons_zero, List.set_cons_succ]
      refine wpAnyK_take (i := 4) (v := ?_) rfl (by kernel_rfl) (fun _ _ _ h => h) (Or.inl ⟨by rfl, ?_⟩) (by assumption) ?_
      rotate_left
      · (intro w hSw; (try dsimp only at hSw); go_simp; try with_reducible rfl)
      try simp only [Act.put, List.getElem_toArray, List.getElem_cons_zero, List.getElem_cons_succ, List.setIfInBounds_toArray, List.set_cons_zero, List.set_cons_succ]
      refine wpAnyK_take (i := 5) (v := ?_) rfl (by kernel_rfl) (fun _ _ _ h => h) (Or.inl ⟨by rfl, ?_⟩) (by assumption) ?_
      rotate_left
      · (intro w hSw; (try dsimp only at hSw); go_simp; try with_reducible rfl)
      try simp only [Act.put, List.getElem_toArray, List.getElem_cons_zero, List.getElem_cons_succ, List.setIfInBounds_toArray, List.set_cons_zero, List.set_cons_succ]
      refine wpAnyK_take (i := 6) (v := ?_) rfl (by kernel_rfl) (fun _ _ _ h => h) (Or.inl ⟨by rfl, ?_⟩) (by assumption) ?_
      rotate_left
      · (intro w hSw; (try dsimp only at hSw); go_simp; try with_reducible rfl)
      try simp only [Act.put, List.getElem_toArray, List.getElem_cons_zero, List.getElem_cons_succ, List.setIfInBounds_toArray, List.set_cons_zero, List.set_cons_succ]
      refine wpAnyK_take (i := 7) (v := ?_) rfl (by kernel_rfl) (fun _ _ _ h => h) (Or.inl ⟨by rfl, ?_⟩) (by assumption) ?_
      rotate_left
      · (intro w hSw; (try dsimp only at hSw); go_simp; try with_reducible rfl)
      try simp only [Act.put, List.getElem_toArray, List.getElem_cons_zero, List.getElem_cons_succ, List.setIfInBounds_toArray, List.set_cons_zero, List.set_cons_succ]
      refine wpAnyK_take (i := 9) (v := ?_) rfl (by kernel_rfl) (fun _ _ _ h => h) (Or.inl ⟨by rfl, ?_⟩) (by assumption) ?_
      rotate_left
      · (intro w hSw; (try dsimp only at hSw); go_simp; try with_reducible rfl)
      try simp only [Act.put, List.getElem_toArray, List.getElem_cons_zero, List.getElem_cons_succ, List.setIfInBounds_toArray, List.set_cons_zero, List.set_cons_succ]
      refine wpAnyK_take (i := 10) (v := ?_) rfl (by kernel_rfl) (fun _ _ _ h => h) (Or.inl ⟨by rfl, ?_⟩) (by assumption) ?_
      rotate_left
      · (intro w hSw; (try dsimp only at hSw); go_simp; try with_reducible rfl)
      try simp only [Act.put, List.getElem_toArray, List.getElem_cons_zero, List.getElem_cons_succ, List.setIfInBounds_toArray, List.set_cons_zero, List.set_cons_succ]
      refine wpAnyK_take (i := 11) (v := ?_) rfl (by kernel_rfl) (fun _ _ _ h => h) (Or.inl ⟨by rfl, ?_⟩) (by assumption) ?_
      rotate_left
      · (intro w hSw; (try dsimp only at hSw); go_simp; try with_reducible rfl)
      try simp only [Act.put, List.getElem_toArray, List.getElem_cons_zero, List.getElem_cons_succ, List.setIfInBounds_toArray, List.set_cons_zero, List.set_cons_succ]
      refine wpAnyK_step (i := 8) rfl (by kernel_rfl) (fun K hK => ?_)
      go_simp
      with_reducible refine (growth_any ha hn hcap hs r knc HG.out P.p1 b2 x HX.out.1 _ T0.out.hr).mono ?_
      rintro e u3 ⟨rfl, hb⟩
      have T1 := Lib.hid (T0.out.call hb)
      clear hb
      refine hK.out _ _ (twoHS_of T1.out) (fun hHeld1 => ?_)
      clear hK K hHeld0
      try simp only [Act.put, List.getElem_toArray, List.getElem_cons_zero, List.getElem_cons_succ, List.setIfInBounds_toArray, List.set_cons_zero, List.set_cons_succ]
      refine wpAnyK_step (i := 12) rfl (by kernel_rfl) (fun K hK => ?_)
      go_simp
      with_reducible refine (growth_any P.a1 P.n1 P.cap1 z1 P.p1 P.i1 HP.out.d.g P.p1 b2 y HX.out.2 _ T1.out.i.r1).mono ?_
      rintro e u4 ⟨rfl, hb⟩
      have T2 := Lib.hid (T1.out.call hb)
      clear hb
      refine hK.out _ _ (twoHS_of T2.out) (fun hHeld2 => ?_)
      clear hK K hHeld1
      try simp only [Act.put, List.getElem_toArray, List.getElem_cons_zero, List.getElem_cons_succ, List.setIfInBounds_toArray, List.set_cons_zero, List.set_cons_succ]
      refine wpAnyK_take (i := 13) (v := ?_) rfl (by kernel_rfl) (fun _ _ _ h => h) (Or.inl ⟨by rfl, ?_⟩) (by assumption) ?_
      rotate_left
      · (intro w hSw; (try dsimp only at hSw); go_simp; try with_reducible rfl)
      try simp only [Act.put, List.getElem_toArray, List.getElem_cons_zero, List.getElem_cons_succ, List.setIfInBounds_toArray, List.set_cons_zero, List.set_cons_succ]
      refine wpAnyK_take (i := 14) (v := ?_) rfl (by kernel_rfl) (fun _ _ _ h => h) (Or.inl ⟨by rfl, ?_⟩) (by assumption) ?_
      rotate_left
      · (intro w hSw; (try dsimp only at hSw); go_simp; try with_reducible rfl)
      try simp only [Act.put, List.getElem_toArray, List.getElem_cons_zero, List.getElem_cons_succ, List.setIfInBounds_toArray, List.set_cons_zero, List.set_cons_succ]
      refine wpAnyK_done (by kernel_rfl) ?_
      simp only [List.drop_succ_cons, List.drop_zero]
      clear hHeld2
      go_wp2_with fail
      go_ret
      exact ⟨rfl, T2.out.below⟩
  · have m1 : ((m : Int) == 0) = false := by simpa using (show ¬ (m : Int) = 0 by omega)
    have hbf : b = false := by cases b with
      | false => rfl
      | true => exact absurd (hb.1 rfl).1 hm0
    subst hbf
    clear hb hm0
    go_enter Try.func98, Try.ntmps98
    go_upto_region 1 with fail
    try rw [HW.out]
    go_upto_region 2 with fail
    clear c0 c1 c2 f0 f1 f2 d0 d1 d2 g0 g1 g2
    refine wp_region_keeps (fun u => TwoHS w P z1 z2 ha hn hcap hs r knc u) 15 1 (by kernel_rfl) (by kernel_rfl) (twoHS_of T0.out) (fun hHeld0 => ?_)
    refine wpAnyK_take (i := 0) (v := ?_) rfl (by kernel_rfl) (fun _ _ _ h => h) (Or.inl ⟨by rfl, ?_⟩) (by assumption) ?_
    rotate_left
    · (intro w hSw; (try dsimp only at hSw); go_simp; try with_reducible rfl)
    try simp only [Act.put, List.getElem_toArray, List.getElem_cons_zero, List.getElem_cons_succ, List.setIfInBounds_toArray, List.set_cons_zero, List.set_cons_succ]
    refine wpAnyK_take (i := 1) (v := ?_) rfl (by kernel_rfl) (fun _ _ _ h => h) (Or.inl ⟨by rfl, ?_⟩) (by assumption) ?_
    rotate_left
    · (intro w hSw; (try dsimp only at hSw); go_simp; try with_reducible rfl)
    try simp only [Act.put, List.getElem_toArray, List.getElem_cons_zero, List.getElem_cons_succ, List.setIfInBounds_toArray, List.set_cons_zero, List.set_cons_succ]
    refine wpAnyK_take (i := 2) (v := ?_) rfl (by kernel_rfl) (fun _ _ _ h => h) (Or.inl ⟨by rfl, ?_⟩) (by assumption) ?_
    rotate_left
    · (intro w hSw; (try dsimp only at hSw); go_simp; try with_reducible rfl)
    try simp only [Act.put, List.getElem_toArray, List.getElem_cons_zero, List.getElem_cons_succ, List.setIfInBounds_toArray, List.set_cons_zero, List.set_cons_succ]
    refine wpAnyK_take (i := 3) (v := ?_) rfl (by kernel_rfl) (fun _ _ _ h => h) (Or.inl ⟨by rfl, ?_⟩) (by assumption) ?_
    rotate_left
    · (intro w hSw; (try dsimp only at hSw); go_simp; try with_reducible rfl)
    try simp only [Act.put, List.getElem_toArray, List.getElem_cons_zero, List.getElem_cons_succ, List.setIfInBounds_toArray, List.set_cons_zero, List.set_cons_succ]
    refine wpAnyK_take (i := 4) (v := ?_) rfl (by kernel_rfl) (fun _ _ _ h => h) (Or.inl ⟨by rfl, ?_⟩) (by assumption) ?_
    rotate_left
    · (intro w hSw; (try dsimp only at hSw); go_simp; try with_reducible rfl)
    try simp only [Act.put, List.getElem_toArray, List.getElem_cons_zero, List.getElem_cons_succ, List.setIfInBounds_toArray, List.set_cons_zero, List.set_cons_succ]
    refine wpAnyK_take (i := 5) (v := ?_) rfl (by kernel_rfl) (fun _ _ _ h => h) (Or.inl ⟨by rfl, ?_⟩) (by assumption) ?_
    rotate_left
    · (intro w hSw; (try dsimp only at hSw); go_simp; try with_reducible rfl)
    try simp only [Act.put, List.getElem_toArray, List.getElem_cons_zero, List.getElem_cons_succ, List.setIfInBounds_toArray, List.set_cons_zero, List.set_cons_succ]
    refine wpAnyK_take (i := 6) (v := undef) rfl (by kernel_rfl) (fun _ _ _ h => h) (Or.inr ⟨by rfl, rfl⟩) (by assumption) ?_
    try simp only [Act.put, List.getElem_toArray, List.getElem_cons_zero, List.getElem_cons_succ, List.setIfInBounds_toArray, List.set_cons_zero, List.set_cons_succ]
    refine wpAnyK_take (i := 7) (v := undef) rfl (by kernel_rfl) (fun _ _ _ h => h) (Or.inr ⟨by rfl, rfl⟩) (by assumption) ?_
    try simp only [Act.put, List.getElem_toArray, List.getElem_cons_zero, List.getElem_cons_succ, List.setIfInBounds_toArray, List.set_cons_zero, List.set_cons_succ]
    refine wpAnyK_take (i := 8) (v := undef) rfl (by kernel_rfl) (fun _ _ _ h => h) (Or.inr ⟨by rfl, rfl⟩) (by assumption) ?_
    try simp only [Act.put, List.getElem_toArray, List.getElem_cons_zero, List.getElem_cons_succ, List.setIfInBounds_toArray, List.set_cons_zero, List.set_cons_succ]
    refine wpAnyK_take (i := 9) (v := undef) rfl (by kernel_rfl) (fun _ _ _ h => h) (Or.inr ⟨by rfl, rfl⟩) (by assumption) ?_
    try simp only [Act.put, List.getElem_toArray, List.getElem_cons_zero, List.getElem_cons_succ, List.setIfInBounds_toArray, List.set_cons_zero, List.set_cons_succ]
    refine wpAnyK_take (i := 10) (v := undef) rfl (by kernel_rfl) (fun _ _ _ h => h) (Or.inr ⟨by rfl, rfl⟩) (by assumption) ?_
    try simp only [Act.put, List.getElem_toArray, List.getElem_cons_zero, List.getElem_cons_succ, List.setIfInBounds_toArray, List.set_cons_zero, List.set_cons_succ]
    refine wpAnyK_take (i := 11) (v := undef) rfl (by kernel_rfl) (fun _ _ _ h => h) (Or.inr ⟨by rfl, rfl⟩) (by assumption) ?_
    try simp only [Act.put, List.getElem_toArray, List.getElem_cons_zero, List.getElem_cons_succ, List.setIfInBounds_toArray, List.set_cons_zero, List.set_cons_succ]
    refine wpAnyK_take (i := 12) (v := undef) rfl (by kernel_rfl) (fun _ _ _ h => h) (Or.inr ⟨by rfl, rfl⟩) (by assumption) ?_
    try simp only [Act.put, List.getElem_toArray, List.getElem_cons_zero, List.getElem_cons_succ, List.setIfInBounds_toArray, List.set_cons_zero, List.set_cons_succ]
    refine wpAnyK_take (i := 13) (v := undef) rfl (by kernel_rfl) (fun _ _ _ h => h) (Or.inr ⟨by rfl, rfl⟩) (by assumption) ?_
    try simp only [Act.put, List.getElem_toArray, List.getElem_cons_zero, List.getElem_cons_succ, List.setIfInBounds_toArray, List.set_cons_zero, List.set_cons_succ]
    refine wpAnyK_take (i := 14) (v := ?_) rfl (by kernel_rfl) (fun _ _ _ h => h) (Or.inl ⟨by rfl, ?_⟩) (by assumption) ?_
    rotate_left
    · (intro w hSw; (try dsimp only at hSw); go_simp; try with_reducible rfl)
    try simp only [Act.put, List.getElem_toArray, List.getElem_cons_zero, List.getElem_cons_succ, List.setIfInBounds_toArray, List.set_cons_zero, List.set_cons_succ]
    refine wpAnyK_done (by kernel_rfl) ?_
    simp only [List.drop_succ_cons, List.drop_zero]
    clear hHeld0
    go_wp2_with fail
    go_ret
    exact ⟨rfl, T0.out.below⟩

/-- A certificate's tick is right. -/
def TickOk (F G H : Nat → Int) (R t : Nat) (u : Int) : Prop := 0 ≤ u ∧ u < (R : Int) ∧ gainI F G t u.toNat = H t

/-- While the ticks are tested. -/
structure AT (w : World) (P : PV) (z1 z2 : List Int) (ha : Option Addr) (hn hcap : Nat) (hs : List Int) (r : Nat) (knc : Int) (B : Nat) (at1 : Option Addr) (m mc : Nat) (ts : List Int) (u : World) : Prop where
  th : TwoH w P z1 z2 ha hn hcap hs r knc u
  ra : RowZ u at1 m mc ts
  cl : ClosP u B ha hn hcap hs r knc
theorem AT.call {w u v : World} {P : PV} {z1 z2 : List Int} {ha : Option Addr} {hn hcap : Nat} {hs : List Int} {r : Nat} {knc : Int} {B : Nat} {at1 : Option Addr} {m mc : Nat} {ts : List Int} (h : AT w P z1 z2 ha hn hcap hs r knc B at1 m mc ts u) (hb : Below u.heap.size u v) : AT w P z1 z2 ha hn hcap hs r knc B at1 m mc ts v := ⟨h.th.call hb, h.ra.under hb, h.cl.under hb⟩

set_option maxRecDepth 100000 in
set_option maxHeartbeats 6400000 in
theorem attained_any8 (P : PV) (z1 z2 : List Int) (ha : Option Addr) (hn hcap : Nat) (hs : List Int) (r : Nat) (knc : Int) (at1 : Option Addr) (m mc : Nat) (ts : List Int) (hm : m ≤ 520) (hP : PIs P z1 z2) (hg : Good hs r knc) (b : Bool) (hb : b = true ↔ ∀ t, t < m → TickOk (atC z1 P.p1 P.i1) (atC z2 P.p2 P.i2) (atC hs r knc) P.R t (ts.getD t 0)) (w : World) (h : PIn P z1 z2 w) (hr : RowZ w ha hn hcap hs) (ra : RowZ w at1 m mc ts) :
    Calls Try.prog 99 #[dpV P, curV ha hn hcap r knc, .slice at1 m mc] w (Says (.bool b) w) := by
  obtain ⟨W, hW⟩ : ∃ W, (w.alloc (dpO P)).alloc (.cells #[.slice ha hn hcap, .int .i64 r, .int .i64 knc] 24) = W := ⟨_, rfl⟩
  have tt := twoH_start h hr hW
  have T0 := Lib.hid (And.intro tt (ra.under tt.below))
  have HW := Lib.hid hW
  have HP := Lib.hid hP
  have HG := Lib.hid hg
  have HB := Lib.hid hb
  have hR : P.R ≤ 519 := by rw [hP.r]; exact hP.d.reach_le
  have hsm := ra.sm
  clear tt h hr ra hW hP hg hb
  obtain ⟨d0, d1, d2, g0, g1, g2⟩ := T0.out.1.hc
  go_enter Try.func99, Try.ntmps99
  go_upto_region 1 with fail
  try rw [HW.out]
  go_wp2_with fail
  refine (pvalues_p ha hn hcap hs r knc HG.out _ T0.out.1.hr).mono ?_
  rintro e w2 ⟨B, rfl, hb, hlB, hmB, hcl⟩
  have A0 := Lib.hid (show AT w P z1 z2 ha hn hcap hs r knc B at1 m mc ts w2 from ⟨T0.out.1.call hb, T0.out.2.under hb, hcl⟩)
  clear hb hlB hmB hcl d0 d1 d2 g0 g1 g2
  go_wp2_with fail
  clear T0 HW
  have EV := Lib.hid (show ∀ (args : Array Value) (w : World), (callFunc 150 args).run Try.prog w = .ok (.enter 150 args) w from enters_of Try.func150 (by kernel_rfl) rfl)
  go_loopw [14] (fun s14 wx => ∃ k : Nat, s14 = .int .i64 k ∧ k ≤ m ∧ Hid (∀ t, t < k → TickOk (atC z1 P.p1 P.i1) (atC z2 P.p2 P.i2) (atC hs r knc) P.R t (ts.getD t 0)) ∧ Hid (AT w P z1 z2 ha hn hcap hs r knc B at1 m mc ts wx)) (fun s14 _ => m - (intOf s14).toNat)
  case atStart => exact ⟨0, by go_num, Nat.zero_le _, (fun t ht => absurd ht (Nat.not_lt_zero _)), A0⟩
  case round =>
    obtain ⟨k, rfl, hk, HK, AK⟩ := hrel
    obtain ⟨wk, rfl⟩ : ∃ u : World, u = wr := ⟨_, rfl⟩
    by_cases hlt : k < m
    · have hlti : (k : Int) < (m : Int) := by omega
      obtain ⟨x, hax, ck⟩ := AK.out.ra.cell k hlt
      obtain ⟨u, hu⟩ : ∃ u, ts.getD k 0 = u := ⟨_, rfl⟩
      rw [hu] at ck
      have HU := Lib.hid hu
      have HAX := Lib.hid hax
      have bu := AK.out.ra.bd k hlt
      rw [hu] at bu
      clear hu
      subst hax
      by_cases h0 : u < 0
      · have t1 : decide (u < 0) = true := decide_eq_true h0
        have hbf : b = false := by cases b with
          | false => rfl
          | true => have := (HB.out.1 rfl k hlt).1; rw [HU.out] at this; omega
        subst hbf
        go_wp2_with fail
        go_ret
        exact ⟨rfl, AK.out.th.below⟩
      · obtain ⟨n, rfl⟩ := Int.eq_ofNat_of_zero_le (show 0 ≤ u by omega)
        have t1 : decide ((n : Int) < 0) = false := decide_eq_false h0
        clear h0
        by_cases hnR : n < P.R
        · have t2 : (n : Int) < (P.R : Int) := by omega
          have t3 : decide ((P.R : Int) ≤ (n : Int)) = false := decide_eq_false (by omega)
          obtain ⟨y, hy⟩ : ∃ y, gainI (atC z1 P.p1 P.i1) (atC z2 P.p2 P.i2) k n = y := ⟨_, rfl⟩
          obtain ⟨v, hv⟩ : ∃ v, atC hs r knc k = v := ⟨_, rfl⟩
          have hmid := at_mid2 HP.out.d.g (t := k + n) (by omega)
          have hsec := HP.out.d.second_bd (u := n) (by rw [← HP.out.r]; exact hnR)
          have HM := Lib.hid (And.intro hmid (show 0 ≤ atC z2 P.p2 P.i2 n ∧ atC z2 P.p2 P.i2 n ≤ 1125899906842624 from ⟨hsec.1, by omega⟩))
          have HY := Lib.hid (And.intro hy hv)
          clear hmid hsec hy hv
          obtain ⟨⟨c0, c1, c2, f0, f1, f2⟩, c3, c4, c5, c6, c7, c8, c9, f3, f4, f5, f6, f7, f8, f9⟩ := AK.out.th.pr
          go_wp2_with fail
          with_reducible refine (gain_any P (atC z1 P.p1 P.i1) (atC z2 P.p2 P.i2) _ _ k n rfl rfl (by omega) hnR (by omega) HM.out.1 HM.out.2 y HY.out.1 _ AK.out.th.i.f AK.out.th.i.s).mono ?_
          rintro e w8 ⟨rfl, hb⟩
          have AK1 := Lib.hid (AK.out.call hb)
          clear hb ck c0 c1 c2 f0 f1 f2 c3 c4 c5 c6 c7 c8 c9 f3 f4 f5 f6 f7 f8 f9
          have ev := EV.out
          go_wp2_with fail
          with_reducible refine (atp_any B ha hn hcap hs r knc k (by omega) _ AK1.out.cl).mono ?_
          rintro e w9 ⟨rfl, hd⟩
          have AK2 := Lib.hid (AK1.out.call (below_dr (Below.refl _ _) hd))
          clear hd ev
          rw [HY.out.2]
          by_cases hyv : y = v
          · subst hyv
            have HK2 := Lib.hid (show ∀ t, t < k + 1 → TickOk (atC z1 P.p1 P.i1) (atC z2 P.p2 P.i2) (atC hs r knc) P.R t (ts.getD t 0) from fun t ht => by
              by_cases e : t = k
              · subst e; rw [HU.out]; exact ⟨by omega, t2, by rw [HY.out.2]; exact HY.out.1⟩
              · exact HK.out t (by omega))
            go_wp2_with fail
            go_roundw
            case rel => exact ⟨k + 1, by go_num, by omega, HK2, AK2⟩
            case measure => simp [intOf]; omega
          · have t5 : (y != v) = true := by simpa using hyv
            have hbf : b = false := by cases b with
              | false => rfl
              | true => have := (HB.out.1 rfl k hlt).2.2; rw [HU.out, HY.out.2] at this; exact absurd (HY.out.1.symm.trans this) hyv
            subst hbf
            clear hyv
            go_wp2_with fail
            go_ret
            exact ⟨rfl, AK2.out.th.below⟩
        · have t2 : ¬ (n : Int) < (P.R : Int) := by omega
          have t2' : (P.R : Int) ≤ (n : Int) := by omega
          have t3 : decide ((P.R : Int) ≤ (n : Int)) = true := decide_eq_true t2'
          have hbf : b = false := by cases b with
            | false => rfl
            | true => have := (HB.out.1 rfl k hlt).2.1; rw [HU.out] at this; omega
          subst hbf
          obtain ⟨⟨c0, c1, c2, f0, f1, f2⟩, c3, c4, c5, c6, c7, c8, c9, f3, f4, f5, f6, f7, f8, f9⟩ := AK.out.th.pr
          go_wp2_with fail
          go_ret
          exact ⟨rfl, AK.out.th.below⟩
    · obtain rfl : k = m := by omega
      have hlti : ¬ (k : Int) < (k : Int) := by omega
      have hbt : b = true := HB.out.2 HK.out
      subst hbt
      go_wp2_with fail
      go_ret
      exact ⟨rfl, AK.out.th.below⟩

set_option maxRecDepth 100000 in
set_option maxHeartbeats 6400000 in
theorem bounded_any8 (P : PV) (z1 z2 : List Int) (ha : Option Addr) (hn hcap : Nat) (hs : List Int) (r : Nat) (knc : Int) (hP : PIs P z1 z2) (hg : Good hs r knc) (hnn : NormC hs r knc hs r knc) (x : Nat) (hx : max (z1.length - P.p1) (hs.length - r) + P.p1 = x) (b : Bool) (hb : b = true ↔ ∀ t u, t < x → u < P.R → gainI (atC z1 P.p1 P.i1) (atC z2 P.p2 P.i2) t u ≤ atC hs r knc t) (w : World) (h : PIn P z1 z2 w) (hr : RowZ w ha hn hcap hs) :
    Calls Try.prog 100 #[dpV P, curV ha hn hcap r knc] w (Says (.bool b) w) := by
  obtain ⟨W, hW⟩ : ∃ W, (w.alloc (dpO P)).alloc (.cells #[.slice ha hn hcap, .int .i64 r, .int .i64 knc] 24) = W := ⟨_, rfl⟩
  have tt := twoH_start h hr hW
  have T0 := Lib.hid tt
  have HW := Lib.hid hW
  have HP := Lib.hid hP
  have HG := Lib.hid (And.intro hg (And.intro hnn hx))
  have HB := Lib.hid hb
  have hR : P.R ≤ 519 := by rw [hP.r]; exact hP.d.reach_le
  have hxb : x ≤ 520 := by have := hP.d.g.few; have := hP.d.g.p2; have := hP.d.g.p3; have := hg.few; have := hg.p1; omega
  clear tt h hr hW hP hg hb hnn hx
  obtain ⟨d0, d1, d2, g0, g1, g2⟩ := T0.out.hc
  go_enter Try.func100, Try.ntmps100
  go_upto_region 1 with fail
  try rw [HW.out]
  go_wp2_with fail
  refine (pvalues_p ha hn hcap hs r knc HG.out.1 _ T0.out.hr).mono ?_
  rintro e w2 ⟨B, rfl, hb, hlB, hmB, hcl⟩
  have A0 := Lib.hid (show AT w P z1 z2 ha hn hcap hs r knc B none 0 0 [] w2 from ⟨T0.out.call hb, rowZ_none _, hcl⟩)
  clear hb hlB hmB hcl d0 d1 d2 g0 g1 g2
  obtain ⟨d0, d1, d2, g0, g1, g2⟩ := A0.out.th.hc
  obtain ⟨⟨c0, c1, c2, f0, f1, f2⟩, c3, c4, c5, c6, c7, c8, c9, f3, f4, f5, f6, f7, f8, f9⟩ := A0.out.th.pr
  go_wp2_with fail
  with_reducible refine (extent_any P z1 z2 ha hn hcap hs r knc HP.out HG.out.1 HG.out.2.1 x HG.out.2.2 _ A0.out.th.i A0.out.th.hr).mono ?_
  rintro e w3 ⟨rfl, hb⟩
  have A1 := Lib.hid (A0.out.call hb)
  clear hb d0 d1 d2 g0 g1 g2 c0 c1 c2 f0 f1 f2 c3 c4 c5 c6 c7 c8 c9 f3 f4 f5 f6 f7 f8 f9
  go_wp2_with fail
  clear T0 HW A0
  have EV := Lib.hid (show ∀ (args : Array Value) (w : World), (callFunc 150 args).run Try.prog w = .ok (.enter 150 args) w from enters_of Try.func150 (by kernel_rfl) rfl)
  go_loopw [14] (fun s14 wx => ∃ k : Nat, s14 = .int .i64 k ∧ k ≤ x ∧ Hid (∀ t u, t < k → u < P.R → gainI (atC z1 P.p1 P.i1) (atC z2 P.p2 P.i2) t u ≤ atC hs r knc t) ∧ Hid (AT w P z1 z2 ha hn hcap hs r knc B none 0 0 [] wx)) (fun s14 _ => x - (intOf s14).toNat)
  case atStart => exact ⟨0, by go_num, Nat.zero_le _, (fun t u ht => absurd ht (Nat.not_lt_zero _)), A1⟩
  case round =>
    obtain ⟨k, rfl, hk, HK, AK⟩ := hrel
    obtain ⟨wk, rfl⟩ : ∃ u : World, u = wr := ⟨_, rfl⟩
    by_cases hlt : k < x
    · have hlti : (k : Int) < (x : Int) := by omega
      obtain ⟨v, hv⟩ : ∃ v, atC hs r knc k = v := ⟨_, rfl⟩
      have HV := Lib.hid hv
      have ev := EV.out
      clear hv
      go_wp2_with fail
      with_reducible refine (atp_any B ha hn hcap hs r knc k (by omega) _ AK.out.cl).mono ?_
      rintro e w4 ⟨rfl, hd⟩
      have AK1 := Lib.hid (AK.out.call (below_dr (Below.refl _ _) hd))
      clear hd ev
      rw [HV.out]
      obtain ⟨⟨c0, c1, c2, f0, f1, f2⟩, c3, c4, c5, c6, c7, c8, c9, f3, f4, f5, f6, f7, f8, f9⟩ := AK1.out.th.pr
      go_wp2_with fail
      clear c0 c1 c2 f0 f1 f2 c3 c4 c5 c6 c7 c8 c9 f3 f4 f5 f6 f7 f8 f9
      go_loopw [22] (fun s22 wx => ∃ n : Nat, s22 = .int .i64 n ∧ n ≤ P.R ∧ Hid (∀ u, u < n → gainI (atC z1 P.p1 P.i1) (atC z2 P.p2 P.i2) k u ≤ v) ∧ Hid (AT w P z1 z2 ha hn hcap hs r knc B none 0 0 [] wx)) (fun s22 _ => P.R - (intOf s22).toNat)
      case atStart => exact ⟨0, by go_num, Nat.zero_le _, (fun u hu => absurd hu (Nat.not_lt_zero _)), AK1⟩
      case round =>
        obtain ⟨n, rfl, hn5, HN, AN⟩ := hrel
        obtain ⟨wn, rfl⟩ : ∃ u : World, u = wr := ⟨_, rfl⟩
        by_cases hnR : n < P.R
        · have t2 : (n : Int) < (P.R : Int) := by omega
          obtain ⟨y, hy⟩ : ∃ y, gainI (atC z1 P.p1 P.i1) (atC z2 P.p2 P.i2) k n = y := ⟨_, rfl⟩
          have hmid := at_mid2 HP.out.d.g (t := k + n) (by omega)
          have hsec := HP.out.d.second_bd (u := n) (by rw [← HP.out.r]; exact hnR)
          have HM := Lib.hid (And.intro hmid (show 0 ≤ atC z2 P.p2 P.i2 n ∧ atC z2 P.p2 P.i2 n ≤ 1125899906842624 from ⟨hsec.1, by omega⟩))
          have HY := Lib.hid hy
          clear hmid hsec hy
          obtain ⟨⟨c0, c1, c2, f0, f1, f2⟩, c3, c4, c5, c6, c7, c8, c9, f3, f4, f5, f6, f7, f8, f9⟩ := AN.out.th.pr
          go_upto_region 9 with fail
          rcases (show (v < y) ∨ ¬ (v < y) by omega) with hvy | hvy
          · have t5 : decide (v < y) = true := decide_eq_true hvy
            have hbf : b = false := by cases b with
              | false => rfl
              | true => have := HB.out.1 rfl k n hlt hnR; rw [HY.out, HV.out] at this; omega
            subst hbf
            go_wp2_with fail
            with_reducible refine (gain_any P (atC z1 P.p1 P.i1) (atC z2 P.p2 P.i2) _ _ k n rfl rfl (by omega) hnR (by omega) HM.out.1 HM.out.2 y HY.out _ AN.out.th.i.f AN.out.th.i.s).mono ?_
            rintro e w8 ⟨rfl, hb⟩
            have AN1 := Lib.hid (AN.out.call hb)
            clear hb c0 c1 c2 f0 f1 f2 c3 c4 c5 c6 c7 c8 c9 f3 f4 f5 f6 f7 f8 f9
            go_wp2_with fail
            go_ret
            exact ⟨rfl, AN1.out.th.below⟩
          · have t5 : decide (v < y) = false := decide_eq_false hvy
            have HN2 := Lib.hid (show ∀ u, u < n + 1 → gainI (atC z1 P.p1 P.i1) (atC z2 P.p2 P.i2) k u ≤ v from fun u hu => by
              by_cases e : u = n
              · subst e; rw [HY.out]; omega
              · exact HN.out u (by omega))
            go_wp2_with fail
            with_reducible refine (gain_any P (atC z1 P.p1 P.i1) (atC z2 P.p2 P.i2) _ _ k n rfl rfl (by omega) hnR (by omega) HM.out.1 HM.out.2 y HY.out _ AN.out.th.i.f AN.out.th.i.s).mono ?_
            rintro e w8 ⟨rfl, hb⟩
            have AN1 := Lib.hid (AN.out.call hb)
            clear hb c0 c1 c2 f0 f1 f2 c3 c4 c5 c6 c7 c8 c9 f3 f4 f5 f6 f7 f8 f9
            go_wp2_with fail
            go_roundw
            case rel => exact ⟨n + 1, by go_num, by omega, HN2, AN1⟩
            case measure => simp [intOf]; omega
        · obtain rfl : n = P.R := by omega
          have t2 : ¬ (P.R : Int) < (P.R : Int) := by omega
          have HK2 := Lib.hid (show ∀ t u, t < k + 1 → u < P.R → gainI (atC z1 P.p1 P.i1) (atC z2 P.p2 P.i2) t u ≤ atC hs r knc t from fun t u ht hu => by
            by_cases e : t = k
            · subst e; rw [HV.out]; exact HN.out u hu
            · exact HK.out t u (by omega) hu)
          go_wp2_with fail
          go_roundw
          case rel => exact ⟨k + 1, by go_num, by omega, HK2, AN⟩
          case measure => simp [intOf]; omega
    · obtain rfl : k = x := by omega
      have hlti : ¬ (k : Int) < (k : Int) := by omega
      have hbt : b = true := HB.out.2 HK.out
      subst hbt
      go_wp2_with fail
      go_ret
      exact ⟨rfl, AK.out.th.below⟩

end Go.Proofs.Ytcbocglakielnaa

namespace Go.Proofs.Ytcbocglakielnaa
open Go.RowKit
set_option linter.unusedSimpArgs false
set_option linter.unusedVariables false

/-- What a certificate with a valid Result in normal form must keep to. -/
def ProvesDec (y1 : List Int) (q1 : Nat) (j1 : Int) (y2 : List Int) (q2 : Nat) (j2 : Int) (L : Nat) (hs : List Int) (r : Nat) (knc : Int) (ts : List Int) : Prop :=
  (Steep y1 q1 j1 y2 q2 j2 L → hs.getD 0 0 = infV ∧ ts.length = 0) ∧
  (¬ Steep y1 q1 j1 y2 q2 j2 L → (q1 % r = 0 ∧ growI hs r knc q1 = growI y1 q1 j1 q1) ∧ ts.length = max (y1.length - q1) (hs.length - r) + q1 ∧
    (∀ t, t < ts.length → TickOk (atC y1 q1 j1) (atC y2 q2 j2) (atC hs r knc) (reach y1 q1 y2 q2 L) t (ts.getD t 0)) ∧
    ∀ t u, t < ts.length → u < reach y1 q1 y2 q2 L → gainI (atC y1 q1 j1) (atC y2 q2 j2) t u ≤ atC hs r knc t)

/-- What stands while a certificate is tested. -/
structure CK8 (w : World) (P : PV) (y1 y2 : List Int) (pb rb : Nat) (a5 : Option Addr) (n5 cap5 : Nat) (r : Nat) (knc : Int) (hs : List Int) (ha : Option Addr) (hn hcap : Nat) (at1 : Option Addr) (m mc : Nat) (ts : List Int) (u : World) : Prop where
  pr : PdB u pb P
  hx : Bx u rb a5 n5 cap5 r knc hs
  gc : G4 u (w.heap.size + 2) (.slice ha hn hcap) (.int .i64 r) (.int .i64 knc) (.slice at1 m mc)
  i : PIn P y1 y2 u
  ra : RowZ u at1 m mc ts
  below : Below w.heap.size w u
theorem CK8.call {w u v : World} {P : PV} {y1 y2 : List Int} {pb rb : Nat} {a5 : Option Addr} {n5 cap5 : Nat} {r : Nat} {knc : Int} {hs : List Int} {ha : Option Addr} {hn hcap : Nat} {at1 : Option Addr} {m mc : Nat} {ts : List Int} (h : CK8 w P y1 y2 pb rb a5 n5 cap5 r knc hs ha hn hcap at1 m mc ts u) (hb : Below u.heap.size u v) : CK8 w P y1 y2 pb rb a5 n5 cap5 r knc hs ha hn hcap at1 m mc ts v := ⟨h.pr.below hb, h.hx.under hb, h.gc.below hb, h.i.under hb, h.ra.under hb, h.below.trans (hb.mono h.below.size)⟩
abbrev CKS (w : World) (P : PV) (y1 y2 : List Int) (pb rb : Nat) (a5 : Option Addr) (n5 cap5 : Nat) (r : Nat) (knc : Int) (hs : List Int) (ha : Option Addr) (hn hcap : Nat) (at1 : Option Addr) (m mc : Nat) (ts : List Int) (u : World) : Prop :=
  u.cell? ⟨pb, 0, none⟩ = some (.slice P.a1 P.n1 P.cap1) ∧ u.cell? ⟨pb, 1, none⟩ = some (.int .i64 P.p1) ∧ u.cell? ⟨pb, 2, none⟩ = some (.int .i64 P.i1) ∧ u.cell? ⟨pb, 3, none⟩ = some (.slice P.a2 P.n2 P.cap2) ∧ u.cell? ⟨pb, 4, none⟩ = some (.int .i64 P.p2) ∧ u.cell? ⟨pb, 5, none⟩ = some (.int .i64 P.i2) ∧ u.cell? ⟨pb, 6, none⟩ = some (.slice (some ⟨P.la, 0, none⟩) 1040 1040) ∧ u.cell? ⟨pb, 7, none⟩ = some (.slice (some ⟨P.lb, 0, none⟩) P.R P.R) ∧ u.cell? ⟨pb, 8, none⟩ = some (.int .i64 P.L) ∧ u.cell? ⟨pb, 9, none⟩ = some (.int .i64 P.R) ∧
  u.cell? ⟨rb, 0, none⟩ = some (.slice a5 n5 cap5) ∧ u.cell? ⟨rb, 1, none⟩ = some (.int .i64 r) ∧ u.cell? ⟨rb, 2, none⟩ = some (.int .i64 knc) ∧ u.cell? ⟨w.heap.size + 1 + 1, 3, none⟩ = some (.slice at1 m mc) ∧ u.cell? ⟨w.heap.size + 2, 3, none⟩ = some (.slice at1 m mc) ∧ Hid (CK8 w P y1 y2 pb rb a5 n5 cap5 r knc hs ha hn hcap at1 m mc ts u)
theorem cks_of {w u : World} {P : PV} {y1 y2 : List Int} {pb rb : Nat} {a5 : Option Addr} {n5 cap5 : Nat} {r : Nat} {knc : Int} {hs : List Int} {ha : Option Addr} {hn hcap : Nat} {at1 : Option Addr} {m mc : Nat} {ts : List Int} (h : CK8 w P y1 y2 pb rb a5 n5 cap5 r knc hs ha hn hcap at1 m mc ts u) : CKS w P y1 y2 pb rb a5 n5 cap5 r knc hs ha hn hcap at1 m mc ts u :=
  ⟨h.pr.lo.c0, h.pr.lo.c1, h.pr.lo.c2, h.pr.c3, h.pr.c4, h.pr.c5, h.pr.c6, h.pr.c7, h.pr.c8, h.pr.c9, h.hx.box.c0, h.hx.box.c1, h.hx.box.c2, h.gc.c3, h.gc.c3, h⟩

set_option maxRecDepth 100000 in
set_option maxHeartbeats 6400000 in
theorem dcheck_ok (a1 : Option Addr) (n1 cap1 : Nat) (z1 : List Int) (p1 : Nat) (i1 : Int) (g1 : Good z1 p1 i1) (a2 : Option Addr) (n2 cap2 : Nat) (z2 : List Int) (p2 : Nat) (i2 : Int) (g2 : Good z2 p2 i2)
    {y1 y2 : List Int} {q1 q2 : Nat} {j1 j2 : Int} (hn1 : NormC z1 p1 i1 y1 q1 j1) (hn2 : NormC z2 p2 i2 y2 q2 j2) (L : Nat) (hL : q1 / Nat.gcd q1 q2 * q2 = L) (hd : Dec y1 q1 j1 y2 q2 j2 L) (ha : Option Addr) (hn hcap : Nat) (hs : List Int) (r : Nat) (knc : Int) (gh : Good hs r knc) (hnn : NormC hs r knc hs r knc) (at1 : Option Addr) (m mc : Nat) (ts : List Int) (b : Bool) (hb : b = true ↔ ProvesDec y1 q1 j1 y2 q2 j2 L hs r knc ts) (w : World) (h1 : RowZ w a1 n1 cap1 z1) (h2 : RowZ w a2 n2 cap2 z2) (hr : RowZ w ha hn hcap hs) (ra : RowZ w at1 m mc ts) :
    Calls Try.prog 51 #[curV a1 n1 cap1 p1 i1, curV a2 n2 cap2 p2 i2, gainsV ha hn hcap r knc at1 m mc] w (Says (.bool b) w) := by
  have GH := Lib.hid (And.intro gh hnn)
  have HBB := Lib.hid hb
  have HTL := Lib.hid ra.len
  clear hb
  have HG := Lib.hid (And.intro g1 g2)
  have HN := Lib.hid (And.intro hn1 hn2)
  have HLL := Lib.hid hL
  have HD := Lib.hid hd
  obtain ⟨W, hW⟩ : ∃ W, ((w.alloc (.cells #[.slice a1 n1 cap1, .int .i64 p1, .int .i64 i1] 24)).alloc (.cells #[.slice a2 n2 cap2, .int .i64 p2, .int .i64 i2] 24)).alloc (.cells #[.slice ha hn hcap, .int .i64 r, .int .i64 knc, .slice at1 m mc] 57) = W := ⟨_, rfl⟩
  have hB : Below w.heap.size w W := by rw [← hW]; exact (((Below.refl _ _).alloc (Nat.le_refl _) _).alloc (by simp) _).alloc (by simp; omega) _
  have hWs : W.heap.size = w.heap.size + 3 := by rw [← hW]; simp
  have m1 : Cur3 W w.heap.size (.slice a1 n1 cap1) (.int .i64 p1) (.int .i64 i1) := by rw [← hW]; exact ((Cur3.new w _ _ _ _).alloc _).alloc _
  have m2 : Cur3 W (w.heap.size + 1) (.slice a2 n2 cap2) (.int .i64 p2) (.int .i64 i2) := by rw [← hW]; exact (Cur3.new2 w _ _ _ _ _).alloc _
  have mr : G4 W (w.heap.size + 2) (.slice ha hn hcap) (.int .i64 r) (.int .i64 knc) (.slice at1 m mc) := by
    rw [← hW]
    have := g4_new ((w.alloc (.cells #[.slice a1 n1 cap1, .int .i64 p1, .int .i64 i1] 24)).alloc (.cells #[.slice a2 n2 cap2, .int .i64 p2, .int .i64 i2] 24)) (.slice ha hn hcap) (.int .i64 r) (.int .i64 knc) (.slice at1 m mc) 57
    simpa using this
  have HB := Lib.hid hB
  have KR := Lib.hid mr
  have HR := Lib.hid (And.intro (h1.under hB) (h2.under hB))
  have RH := Lib.hid (And.intro (hr.under hB) (ra.under hB))
  have HWS := Lib.hid hWs
  have HW := Lib.hid hW
  have hsm := ra.sm
  obtain ⟨c0, c1, c2, f0, f1, f2⟩ := m1
  obtain ⟨d0, d1, d2, e0, e1, e2⟩ := m2
  clear g1 g2 hn1 hn2 hL hd h1 h2 hr ra hB mr hWs hW
  go_enter Try.func51, Try.ntmps51
  go_wp2_with fail
  try rw [HW.out]
  clear c0 c1 c2 f0 f1 f2 d0 d1 d2 e0 e1 e2
  refine (dpaired_ok a1 n1 cap1 z1 p1 i1 HG.out.1 a2 n2 cap2 z2 p2 i2 HG.out.2 HN.out.1 HN.out.2 L HLL.out HD.out _ HR.out.1 HR.out.2).mono ?_
  rintro e v1 ⟨P, rfl, hb, hps, hpn, rfl, rfl, rfl, rfl, rfl⟩
  obtain ⟨W2, hw⟩ : ∃ W2, v1.alloc (dpO P) = W2 := ⟨_, rfl⟩
  obtain ⟨hz, pb0, _⟩ := pair_box hw
  have hWz : Below W.heap.size W W2 := hb.trans (hz.mono hb.size)
  have PB := Lib.hid pb0
  have KR2 := Lib.hid (KR.out.below hWz)
  have RH2 := Lib.hid (And.intro (RH.out.1.under hWz) (RH.out.2.under hWz))
  have HB2 := Lib.hid (HB.out.trans (hWz.mono HB.out.size))
  have HPS := Lib.hid hps
  have PI2 := Lib.hid (hpn.under hz)
  have HW2 := Lib.hid hw
  clear hb hps hpn hw hz hWz pb0 HR HW HB KR HWS RH
  obtain ⟨⟨c0, c1, c2, f0, f1, f2⟩, c3, f3⟩ := KR2.out
  go_upto_region 2 with fail
  try rw [HW2.out]
  go_wp2_with fail
  clear c0 c1 c2 f0 f1 f2 c3 f3
  refine (normal_ok ha hn hcap hs r knc GH.out.1 _ RH2.out.1).mono ?_
  rintro e v3 ⟨a5, n5, cap5, z5, p5, i5, rfl, hb, hr5, hn5, hx5⟩
  obtain ⟨rfl, rfl, rfl⟩ := hn5.canon GH.out.1 GH.out.1 GH.out.2 (fun _ => rfl)
  obtain ⟨W4, hw4⟩ : ∃ W4, v3.alloc (.cells #[.slice a5 n5 cap5, .int .i64 p5, .int .i64 i5] 24) = W4 := ⟨_, rfl⟩
  have hz4 : Below v3.heap.size v3 W4 := by rw [← hw4]; exact (Below.refl _ _).alloc (Nat.le_refl _) _
  have hb4 : Below W2.heap.size W2 W4 := hb.trans (hz4.mono hb.size)
  have C4 := Lib.hid (show CK8 w P y1 y2 v1.heap.size v3.heap.size a5 n5 cap5 p5 i5 z5 ha hn hcap at1 m mc ts W4 from
    ⟨PB.out.below hb4, by rw [← hw4]; exact Bx.new hr5, KR2.out.below hb4, PI2.out.under hb4, RH2.out.2.under hb4, HB2.out.trans (hb4.mono HB2.out.size)⟩)
  have RC4 := Lib.hid (RH2.out.1.under hb4)
  have HSB := Lib.hid (show sameB z5 p5 i5 z5 p5 i5 = true from sameB_iff.2 ⟨rfl, rfl, rfl⟩)
  have HW4 := Lib.hid hw4
  clear hb hr5 hn5 hx5 hw4 hz4 hb4
  obtain ⟨⟨c0, c1, c2, f0, f1, f2⟩, c3, f3⟩ := C4.out.gc
  obtain ⟨d0, d1, d2, e0, e1, e2⟩ := C4.out.hx.box
  go_upto_region 5 with fail
  try rw [HW4.out]
  go_wp2_with fail
  refine (same_any a5 n5 cap5 z5 p5 i5 ha hn hcap z5 p5 i5 true HSB.out _ C4.out.hx.row RC4.out).mono ?_
  rintro e v5 ⟨rfl, hb⟩
  have C5 := Lib.hid (C4.out.call hb)
  clear hb c0 c1 c2 f0 f1 f2 c3 f3 d0 d1 d2 e0 e1 e2 PB KR2 RH2 PI2 C4 RC4
  obtain ⟨⟨c0, c1, c2, f0, f1, f2⟩, c3, c4, c5, c6, c7, c8, c9, f3, f4, f5, f6, f7, f8, f9⟩ := C5.out.pr
  by_cases hst : Steep y1 P.p1 P.i1 y2 P.p2 P.i2 P.L
  · have HST := Lib.hid hst
    clear hst
    go_wp2_with fail
    refine (unbounded_any P y1 y2 HPS.out true ⟨fun _ => HST.out, fun _ => rfl⟩ _ C5.out.i).mono ?_
    rintro e v6 ⟨rfl, hb⟩
    have C6 := Lib.hid (C5.out.call hb)
    clear hb c0 c1 c2 f0 f1 f2 c3 c4 c5 c6 c7 c8 c9 f3 f4 f5 f6 f7 f8 f9
    obtain ⟨⟨c0, c1, c2, f0, f1, f2⟩, c3, f3⟩ := C6.out.gc
    obtain ⟨d0, d1, d2, e0, e1, e2⟩ := C6.out.hx.box
    have hn1 : 1 ≤ n5 := by have := C6.out.hx.row.len; have := GH.out.1.p1; have := GH.out.1.p3; omega
    obtain ⟨x, hax, hcx⟩ := C6.out.hx.row.cell 0 hn1
    have hcy := hcx
    rw [show x.add 0 = x by cases x; rfl] at hcy
    have hni : (0 : Int) < (n5 : Int) := by omega
    obtain ⟨v, hv⟩ : ∃ v, z5.getD 0 0 = v := ⟨_, rfl⟩
    rw [hv] at hcx hcy
    have HV := Lib.hid hv
    clear hv
    subst hax
    have hbb : b = true ↔ (v = 4611686018427387904 ∧ m = 0) := by
      rw [HBB.out]
      have e1 : ts.length = m := HTL.out
      have e2 : z5.getD 0 0 = v := HV.out
      refine ⟨fun k => ?_, fun k => ⟨fun _ => ?_, fun k2 => absurd HST.out k2⟩⟩
      · have := k.1 HST.out; rw [e1, e2] at this; exact this
      · rw [e1, e2]; exact k
    by_cases hi : v = 4611686018427387904
    · subst hi
      by_cases hm0 : m = 0
      · have hbt : b = true := hbb.2 ⟨rfl, hm0⟩
        subst hbt
        have t5 : ((m : Int) == 0) = true := by rw [hm0]; rfl
        clear hbb hm0
        go_wp2_with fail
        go_ret
        exact ⟨rfl, C6.out.below⟩
      · have hbf : b = false := by cases b with
          | false => rfl
          | true => exact absurd (hbb.1 rfl).2 hm0
        subst hbf
        have t5 : ((m : Int) == 0) = false := by simpa using (show ¬ (m : Int) = 0 by omega)
        clear hbb hm0
        go_wp2_with fail
        go_ret
        exact ⟨rfl, C6.out.below⟩
    · have hbf : b = false := by cases b with
        | false => rfl
        | true => exact absurd (hbb.1 rfl).1 hi
      subst hbf
      have t5 : (v == 4611686018427387904) = false := by simpa using hi
      clear hbb hi
      go_wp2_with fail
      go_ret
      exact ⟨rfl, C6.out.below⟩
  · have HST := Lib.hid hst
    clear hst
    go_wp2_with fail
    refine (unbounded_any P y1 y2 HPS.out false ⟨fun h => (by cases h), fun h => absurd h HST.out⟩ _ C5.out.i).mono ?_
    rintro e v6 ⟨rfl, hb⟩
    have C6 := Lib.hid (C5.out.call (hb.trans ((Below.refl v6.heap.size v6).drew.mono hb.size)))
    clear hb c0 c1 c2 f0 f1 f2 c3 c4 c5 c6 c7 c8 c9 f3 f4 f5 f6 f7 f8 f9
    obtain ⟨x, hx⟩ : ∃ x, max (y1.length - P.p1) (z5.length - p5) + P.p1 = x := ⟨_, rfl⟩
    have HX := Lib.hid hx
    have hxb : x ≤ 520 := by have := HPS.out.d.g.few; have := HPS.out.d.g.p2; have := HPS.out.d.g.p3; have := GH.out.1.few; have := GH.out.1.p1; omega
    clear hx
    have hbb : b = true ↔ ((P.p1 % p5 = 0 ∧ growI z5 p5 i5 P.p1 = growI y1 P.p1 P.i1 P.p1) ∧ m = x ∧ (∀ t, t < m → TickOk (atC y1 P.p1 P.i1) (atC y2 P.p2 P.i2) (atC z5 p5 i5) P.R t (ts.getD t 0)) ∧ ∀ t u, t < m → u < P.R → gainI (atC y1 P.p1 P.i1) (atC y2 P.p2 P.i2) t u ≤ atC z5 p5 i5 t) := by
      rw [HBB.out]
      have e1 : ts.length = m := HTL.out
      refine ⟨fun k => ?_, fun k => ⟨fun k2 => absurd k2 HST.out, fun _ => ?_⟩⟩
      · have := k.2 HST.out; rw [e1, ← HPS.out.r, HX.out] at this; exact this
      · rw [e1, ← HPS.out.r, HX.out]; exact k
    have HBX := Lib.hid hbb
    clear hbb
    go_upto_region 9 with fail
    by_cases hg : P.p1 % p5 = 0 ∧ growI z5 p5 i5 P.p1 = growI y1 P.p1 P.i1 P.p1
    · have HGR := Lib.hid hg
      clear hg
      by_cases hmx : m = x
      · subst hmx
        by_cases hat : ∀ t, t < m → TickOk (atC y1 P.p1 P.i1) (atC y2 P.p2 P.i2) (atC z5 p5 i5) P.R t (ts.getD t 0)
        · have HAT := Lib.hid hat
          clear hat
          have HBD := Lib.hid (show b = true ↔ ∀ t u, t < m → u < P.R → gainI (atC y1 P.p1 P.i1) (atC y2 P.p2 P.i2) t u ≤ atC z5 p5 i5 t from ⟨fun k => (HBX.out.1 k).2.2.2, fun k => HBX.out.2 ⟨HGR.out, rfl, HAT.out, k⟩⟩)
          refine wp_region_keeps (fun u => CKS w P y1 y2 v1.heap.size v3.heap.size a5 n5 cap5 p5 i5 z5 ha hn hcap at1 m mc ts u) 24 1 (by kernel_rfl) (by kernel_rfl) (cks_of C6.out) (fun hHeld0 => ?_)
          refine wpAnyK_take (i := 0) (v := ?_) rfl (by kernel_rfl) (fun _ _ _ h => h) (Or.inl ⟨by rfl, ?_⟩) (by assumption) ?_
          rotate_left
          · (intro w hSw; (try dsimp only at hSw); go_simp; try with_reducible rfl)
          try simp only [Act.put, List.getElem_toArray, List.getElem_cons_zero, List.getElem_cons_succ, List.setIfInBounds_toArray, List.set_cons_zero, List.set_cons_succ]
          refine wpAnyK_take (i := 1) (v := ?_) rfl (by kernel_rfl) (fun _ _ _ h => h) (Or.inl ⟨by rfl, ?_⟩) (by assumption) ?_
          rotate_left
          · (intro w hSw; (try dsimp only at hSw); go_simp; try with_reducible rfl)
          try simp only [Act.put, List.getElem_toArray, List.getElem_cons_zero, List.getElem_cons_succ, List.setIfInBounds_toArray, List.set_cons_zero, List.set_cons_succ]
          refine wpAnyK_step (i := 2) rfl (by kernel_rfl) (fun K hK => ?_)
          go_simp
          with_reducible refine (grows_any8 P y1 y2 a5 n5 cap5 z5 p5 i5 HPS.out GH.out.1 true ⟨fun _ => HGR.out, fun _ => rfl⟩ _ C6.out.i C6.out.hx.row).mono ?_
          rintro e u3 ⟨rfl, hb⟩
          have T1 := Lib.hid (C6.out.call hb)
          clear hb
          refine hK.out _ _ (cks_of T1.out) (fun hHeld1 => ?_)
          clear hK K hHeld0
          try simp only [Act.put, List.getElem_toArray, List.getElem_cons_zero, List.getElem_cons_succ, List.setIfInBounds_toArray, List.set_cons_zero, List.set_cons_succ]
          refine wpAnyK_take (i := 3) (v := ?_) rfl (by kernel_rfl) (fun _ _ _ h => h) (Or.inl ⟨by rfl, ?_⟩) (by assumption) ?_
          rotate_left
          · (intro w hSw; (try dsimp only at hSw); go_simp; try with_reducible rfl)
          try simp only [Act.put, List.getElem_toArray, List.getElem_cons_zero, List.getElem_cons_succ, List.setIfInBounds_toArray, List.set_cons_zero, List.set_cons_succ]
          refine wpAnyK_take (i := 4) (v := ?_) rfl (by kernel_rfl) (fun _ _ _ h => h) (Or.inl ⟨by rfl, ?_⟩) (by assumption) ?_
          rotate_left
          · (intro w hSw; (try dsimp only at hSw); go_simp; try with_reducible rfl)
          try simp only [Act.put, List.getElem_toArray, List.getElem_cons_zero, List.getElem_cons_succ, List.setIfInBounds_toArray, List.set_cons_zero, List.set_cons_succ]
          refine wpAnyK_take (i := 5) (v := ?_) rfl (by kernel_rfl) (fun _ _ _ h => h) (Or.inl ⟨by rfl, ?_⟩) (by assumption) ?_
          rotate_left
          · (intro w hSw; (try dsimp only at hSw); go_simp; try with_reducible rfl)
          try simp only [Act.put, List.getElem_toArray, List.getElem_cons_zero, List.getElem_cons_succ, List.setIfInBounds_toArray, List.set_cons_zero, List.set_cons_succ]
          refine wpAnyK_take (i := 6) (v := ?_) rfl (by kernel_rfl) (fun _ _ _ h => h) (Or.inl ⟨by rfl, ?_⟩) (by assumption) ?_
          rotate_left
          · (intro w hSw; (try dsimp only at hSw); go_simp; try with_reducible rfl)
          try simp only [Act.put, List.getElem_toArray, List.getElem_cons_zero, List.getElem_cons_succ, List.setIfInBounds_toArray, List.set_cons_zero, List.set_cons_succ]
          refine wpAnyK_take (i := 7) (v := ?_) rfl (by kernel_rfl) (fun _ _ _ h => h) (Or.inl ⟨by rfl, ?_⟩) (by assumption) ?_
          rotate_left
          · (intro w hSw; (try dsimp only at hSw); go_simp; try with_reducible rfl)
          try simp only [Act.put, List.getElem_toArray, List.getElem_cons_zero, List.getElem_cons_succ, List.setIfInBounds_toArray, List.set_cons_zero, List.set_cons_succ]
          refine wpAnyK_take (i := 8) (v := ?_) rfl (by kernel_rfl) (fun _ _ _ h => h) (Or.inl ⟨by rfl, ?_⟩) (by assumption) ?_
          rotate_left
          · (intro w hSw; (try dsimp only at hSw); go_simp; try with_reducible rfl)
          try simp only [Act.put, List.getElem_toArray, List.getElem_cons_zero, List.getElem_cons_succ, List.setIfInBounds_toArray, List.set_cons_zero, List.set_cons_succ]
          refine wpAnyK_step (i := 9) rfl (by kernel_rfl) (fun K hK => ?_)
          go_simp
          with_reducible refine (extent_any P y1 y2 a5 n5 cap5 z5 p5 i5 HPS.out GH.out.1 GH.out.2 m HX.out _ T1.out.i T1.out.hx.row).mono ?_
          rintro e u4 ⟨rfl, hb⟩
          have T2 := Lib.hid (T1.out.call hb)
          clear hb
          refine hK.out _ _ (cks_of T2.out) (fun hHeld2 => ?_)
          clear hK K hHeld1
          try simp only [Act.put, List.getElem_toArray, List.getElem_cons_zero, List.getElem_cons_succ, List.setIfInBounds_toArray, List.set_cons_zero, List.set_cons_succ]
          refine wpAnyK_take (i := 10) (v := ?_) rfl (by kernel_rfl) (fun _ _ _ h => h) (Or.inl ⟨by rfl, ?_⟩) (by assumption) ?_
          rotate_left
          · (intro w hSw; (try dsimp only at hSw); go_simp; try with_reducible rfl)
          try simp only [Act.put, List.getElem_toArray, List.getElem_cons_zero, List.getElem_cons_succ, List.setIfInBounds_toArray, List.set_cons_zero, List.set_cons_succ]
          refine wpAnyK_take (i := 11) (v := ?_) rfl (by kernel_rfl) (fun _ _ _ h => h) (Or.inl ⟨by rfl, ?_⟩) (by assumption) ?_
          rotate_left
          · (intro w hSw; (try dsimp only at hSw); go_simp; try with_reducible rfl)
          try simp only [Act.put, List.getElem_toArray, List.getElem_cons_zero, List.getElem_cons_succ, List.setIfInBounds_toArray, List.set_cons_zero, List.set_cons_succ]
          refine wpAnyK_take (i := 12) (v := ?_) rfl (by kernel_rfl) (fun _ _ _ h => h) (Or.inl ⟨by rfl, ?_⟩) (by assumption) ?_
          rotate_left
          · (intro w hSw; (try dsimp only at hSw); go_simp; try with_reducible rfl)
          try simp only [Act.put, List.getElem_toArray, List.getElem_cons_zero, List.getElem_cons_succ, List.setIfInBounds_toArray, List.set_cons_zero, List.set_cons_succ]
          refine wpAnyK_take (i := 13) (v := ?_) rfl (by kernel_rfl) (fun _ _ _ h => h) (Or.inl ⟨by rfl, ?_⟩) (by assumption) ?_
          rotate_left
          · (intro w hSw; (try dsimp only at hSw); go_simp; try with_reducible rfl)
          try simp only [Act.put, List.getElem_toArray, List.getElem_cons_zero, List.getElem_cons_succ, List.setIfInBounds_toArray, List.set_cons_zero, List.set_cons_succ]
          refine wpAnyK_take (i := 14) (v := ?_) rfl (by kernel_rfl) (fun _ _ _ h => h) (Or.inl ⟨by rfl, ?_⟩) (by assumption) ?_
          rotate_left
          · (intro w hSw; (try dsimp only at hSw); go_simp; try with_reducible rfl)
          try simp only [Act.put, List.getElem_toArray, List.getElem_cons_zero, List.getElem_cons_succ, List.setIfInBounds_toArray, List.set_cons_zero, List.set_cons_succ]
          refine wpAnyK_take (i := 15) (v := ?_) rfl (by kernel_rfl) (fun _ _ _ h => h) (Or.inl ⟨by rfl, ?_⟩) (by assumption) ?_
          rotate_left
          · (intro w hSw; (try dsimp only at hSw); go_simp; try with_reducible rfl)
          try simp only [Act.put, List.getElem_toArray, List.getElem_cons_zero, List.getElem_cons_succ, List.setIfInBounds_toArray, List.set_cons_zero, List.set_cons_succ]
          refine wpAnyK_take (i := 16) (v := ?_) rfl (by kernel_rfl) (fun _ _ _ h => h) (Or.inl ⟨by rfl, ?_⟩) (by assumption) ?_
          rotate_left
          · (intro w hSw; (try dsimp only at hSw); go_simp; try with_reducible rfl)
          try simp only [Act.put, List.getElem_toArray, List.getElem_cons_zero, List.getElem_cons_succ, List.setIfInBounds_toArray, List.set_cons_zero, List.set_cons_succ]
          refine wpAnyK_step (i := 17) rfl (by kernel_rfl) (fun K hK => ?_)
          go_simp
          with_reducible refine (attained_any8 P y1 y2 a5 n5 cap5 z5 p5 i5 at1 m mc ts (by omega) HPS.out GH.out.1 true ⟨fun _ => HAT.out, fun _ => rfl⟩ _ T2.out.i T2.out.hx.row T2.out.ra).mono ?_
          rintro e u5 ⟨rfl, hb⟩
          have T3 := Lib.hid (T2.out.call hb)
          clear hb
          refine hK.out _ _ (cks_of T3.out) (fun hHeld3 => ?_)
          clear hK K hHeld2
          try simp only [Act.put, List.getElem_toArray, List.getElem_cons_zero, List.getElem_cons_succ, List.setIfInBounds_toArray, List.set_cons_zero, List.set_cons_succ]
          refine wpAnyK_take (i := 18) (v := ?_) rfl (by kernel_rfl) (fun _ _ _ h => h) (Or.inl ⟨by rfl, ?_⟩) (by assumption) ?_
          rotate_left
          · (intro w hSw; (try dsimp only at hSw); go_simp; try with_reducible rfl)
          try simp only [Act.put, List.getElem_toArray, List.getElem_cons_zero, List.getElem_cons_succ, List.setIfInBounds_toArray, List.set_cons_zero, List.set_cons_succ]
          refine wpAnyK_take (i := 19) (v := ?_) rfl (by kernel_rfl) (fun _ _ _ h => h) (Or.inl ⟨by rfl, ?_⟩) (by assumption) ?_
          rotate_left
          · (intro w hSw; (try dsimp only at hSw); go_simp; try with_reducible rfl)
          try simp only [Act.put, List.getElem_toArray, List.getElem_cons_zero, List.getElem_cons_succ, List.setIfInBounds_toArray, List.set_cons_zero, List.set_cons_succ]
          refine wpAnyK_take (i := 20) (v := ?_) rfl (by kernel_rfl) (fun _ _ _ h => h) (Or.inl ⟨by rfl, ?_⟩) (by assumption) ?_
          rotate_left
          · (intro w hSw; (try dsimp only at hSw); go_simp; try with_reducible rfl)
          try simp only [Act.put, List.getElem_toArray, List.getElem_cons_zero, List.getElem_cons_succ, List.setIfInBounds_toArray, List.set_cons_zero, List.set_cons_succ]
          refine wpAnyK_take (i := 21) (v := ?_) rfl (by kernel_rfl) (fun _ _ _ h => h) (Or.inl ⟨by rfl, ?_⟩) (by assumption) ?_
          rotate_left
          · (intro w hSw; (try dsimp only at hSw); go_simp; try with_reducible rfl)
          try simp only [Act.put, List.getElem_toArray, List.getElem_cons_zero, List.getElem_cons_succ, List.setIfInBounds_toArray, List.set_cons_zero, List.set_cons_succ]
          refine wpAnyK_step (i := 22) rfl (by kernel_rfl) (fun K hK => ?_)
          go_simp
          with_reducible refine (bounded_any8 P y1 y2 a5 n5 cap5 z5 p5 i5 HPS.out GH.out.1 GH.out.2 m HX.out b HBD.out _ T3.out.i T3.out.hx.row).mono ?_
          rintro e u6 ⟨rfl, hb⟩
          have T4 := Lib.hid (T3.out.call hb)
          clear hb
          refine hK.out _ _ (cks_of T4.out) (fun hHeld4 => ?_)
          clear hK K hHeld3
          try simp only [Act.put, List.getElem_toArray, List.getElem_cons_zero, List.getElem_cons_succ, List.setIfInBounds_toArray, List.set_cons_zero, List.set_cons_succ]
          refine wpAnyK_take (i := 23) (v := ?_) rfl (by kernel_rfl) (fun _ _ _ h => h) (Or.inl ⟨by rfl, ?_⟩) (by assumption) ?_
          rotate_left
          · (intro w hSw; (try dsimp only at hSw); go_simp; try with_reducible rfl)
          try simp only [Act.put, List.getElem_toArray, List.getElem_cons_zero, List.getElem_cons_succ, List.setIfInBounds_toArray, List.set_cons_zero, List.set_cons_succ]
          refine wpAnyK_done (by kernel_rfl) ?_
          simp only [List.drop_succ_cons, List.drop_zero]
          clear hHeld4
          go_wp2_with fail
          go_ret
          exact ⟨rfl, T4.out.below⟩
        · have hbf : b = false := by cases b with
            | false => rfl
            | true => exact absurd (HBX.out.1 rfl).2.2.1 hat
          subst hbf
          have HAT := Lib.hid hat
          clear hat
          refine wp_region_keeps (fun u => CKS w P y1 y2 v1.heap.size v3.heap.size a5 n5 cap5 p5 i5 z5 ha hn hcap at1 m mc ts u) 24 1 (by kernel_rfl) (by kernel_rfl) (cks_of C6.out) (fun hHeld0 => ?_)
          refine wpAnyK_take (i := 0) (v := ?_) rfl (by kernel_rfl) (fun _ _ _ h => h) (Or.inl ⟨by rfl, ?_⟩) (by assumption) ?_
          rotate_left
          · (intro w hSw; (try dsimp only at hSw); go_simp; try with_reducible rfl)
          try simp only [Act.put, List.getElem_toArray, List.getElem_cons_zero, List.getElem_cons_succ, List.setIfInBounds_toArray, List.set_cons_zero, List.set_cons_succ]
          refine wpAnyK_take (i := 1) (v := ?_) rfl (by kernel_rfl) (fun _ _ _ h => h) (Or.inl ⟨by rfl, ?_⟩) (by assumption) ?_
          rotate_left
          · (intro w hSw; (try dsimp only at hSw); go_simp; try with_reducible rfl)
          try simp only [Act.put, List.getElem_toArray, List.getElem_cons_zero, List.getElem_cons_succ, List.setIfInBounds_toArray, List.set_cons_zero, List.set_cons_succ]
          refine wpAnyK_step (i := 2) rfl (by kernel_rfl) (fun K hK => ?_)
          go_simp
          with_reducible refine (grows_any8 P y1 y2 a5 n5 cap5 z5 p5 i5 HPS.out GH.out.1 true ⟨fun _ => HGR.out, fun _ => rfl⟩ _ C6.out.i C6.out.hx.row).mono ?_
          rintro e u3 ⟨rfl, hb⟩
          have T1 := Lib.hid (C6.out.call hb)
          clear hb
          refine hK.out _ _ (cks_of T1.out) (fun hHeld1 => ?_)
          clear hK K hHeld0
          try simp only [Act.put, List.getElem_toArray, List.getElem_cons_zero, List.getElem_cons_succ, List.setIfInBounds_toArray, List.set_cons_zero, List.set_cons_succ]
          refine wpAnyK_take (i := 3) (v := ?_) rfl (by kernel_rfl) (fun _ _ _ h => h) (Or.inl ⟨by rfl, ?_⟩) (by assumption) ?_
          rotate_left
          · (intro w hSw; (try dsimp only at hSw); go_simp; try with_reducible rfl)
          try simp only [Act.put, List.getElem_toArray, List.getElem_cons_zero, List.getElem_cons_succ, List.setIfInBounds_toArray, List.set_cons_zero, List.set_cons_succ]
          refine wpAnyK_take (i := 4) (v := ?_) rfl (by kernel_rfl) (fun _ _ _ h => h) (Or.inl ⟨by rfl, ?_⟩) (by assumption) ?_
          rotate_left
          · (intro w hSw; (try dsimp only at hSw); go_simp; try with_reducible rfl)
          try simp only [Act.put, List.getElem_toArray, List.getElem_cons_zero, List.getElem_cons_succ, List.setIfInBounds_toArray, List.set_cons_zero, List.set_cons_succ]
          refine wpAnyK_take (i := 5) (v := ?_) rfl (by kernel_rfl) (fun _ _ _ h => h) (Or.inl ⟨by rfl, ?_⟩) (by assumption) ?_
          rotate_left
          · (intro w hSw; (try dsimp only at hSw); go_simp; try with_reducible rfl)
          try simp only [Act.put, List.getElem_toArray, List.getElem_cons_zero, List.getElem_cons_succ, List.setIfInBounds_toArray, List.set_cons_zero, List.set_cons_succ]
          refine wpAnyK_take (i := 6) (v := ?_) rfl (by kernel_rfl) (fun _ _ _ h => h) (Or.inl ⟨by rfl, ?_⟩) (by assumption) ?_
          rotate_left
          · (intro w hSw; (try dsimp only at hSw); go_simp; try with_reducible rfl)
          try simp only [Act.put, List.getElem_toArray, List.getElem_cons_zero, List.getElem_cons_succ, List.setIfInBounds_toArray, List.set_cons_zero, List.set_cons_succ]
          refine wpAnyK_take (i := 7) (v := ?_) rfl (by kernel_rfl) (fun _ _ _ h => h) (Or.inl ⟨by rfl, ?_⟩) (by assumption) ?_
          rotate_left
          · (intro w hSw; (try dsimp only at hSw); go_simp; try with_reducible rfl)
          try simp only [Act.put, List.getElem_toArray, List.getElem_cons_zero, List.getElem_cons_succ, List.setIfInBounds_toArray, List.set_cons_zero, List.set_cons_succ]
          refine wpAnyK_take (i := 8) (v := ?_) rfl (by kernel_rfl) (fun _ _ _ h => h) (Or.inl ⟨by rfl, ?_⟩) (by assumption) ?_
          rotate_left
          · (intro w hSw; (try dsimp only at hSw); go_simp; try with_reducible rfl)
          try simp only [Act.put, List.getElem_toArray, List.getElem_cons_zero, List.getElem_cons_succ, List.setIfInBounds_toArray, List.set_cons_zero, List.set_cons_succ]
          refine wpAnyK_step (i := 9) rfl (by kernel_rfl) (fun K hK => ?_)
          go_simp
          with_reducible refine (extent_any P y1 y2 a5 n5 cap5 z5 p5 i5 HPS.out GH.out.1 GH.out.2 m HX.out _ T1.out.i T1.out.hx.row).mono ?_
          rintro e u4 ⟨rfl, hb⟩
          have T2 := Lib.hid (T1.out.call hb)
          clear hb
          refine hK.out _ _ (cks_of T2.out) (fun hHeld2 => ?_)
          clear hK K hHeld1
          try simp only [Act.put, List.getElem_toArray, List.getElem_cons_zero, List.getElem_cons_succ, List.setIfInBounds_toArray, List.set_cons_zero, List.set_cons_succ]
          refine wpAnyK_take (i := 10) (v := ?_) rfl (by kernel_rfl) (fun _ _ _ h => h) (Or.inl ⟨by rfl, ?_⟩) (by assumption) ?_
          rotate_left
          · (intro w hSw; (try dsimp only at hSw); go_simp; try with_reducible rfl)
          try simp only [Act.put, List.getElem_toArray, List.getElem_cons_zero, List.getElem_cons_succ, List.setIfInBounds_toArray, List.set_cons_zero, List.set_cons_succ]
          refine wpAnyK_take (i := 11) (v := ?_) rfl (by kernel_rfl) (fun _ _ _ h => h) (Or.inl ⟨by rfl, ?_⟩) (by assumption) ?_
          rotate_left
          · (intro w hSw; (try dsimp only at hSw); go_simp; try with_reducible rfl)
          try simp only [Act.put, List.getElem_toArray, List.getElem_cons_zero, List.getElem_cons_succ, List.setIfInBounds_toArray, List.set_cons_zero, List.set_cons_succ]
          refine wpAnyK_take (i := 12) (v := ?_) rfl (by kernel_rfl) (fun _ _ _ h => h) (Or.inl ⟨by rfl, ?_⟩) (by assumption) ?_
          rotate_left
          · (intro w hSw; (try dsimp only at hSw); go_simp; try with_reducible rfl)
          try simp only [Act.put, List.getElem_toArray, List.getElem_cons_zero, List.getElem_cons_succ, List.setIfInBounds_toArray, List.set_cons_zero, List.set_cons_succ]
          refine wpAnyK_take (i := 13) (v := ?_) rfl (by kernel_rfl) (fun _ _ _ h => h) (Or.inl ⟨by rfl, ?_⟩) (by assumption) ?_
          rotate_left
          · (intro w hSw; (try dsimp only at hSw); go_simp; try with_reducible rfl)
          try simp only [Act.put, List.getElem_toArray, List.getElem_cons_zero, List.getElem_cons_succ, List.setIfInBounds_toArray, List.set_cons_zero, List.set_cons_succ]
          refine wpAnyK_take (i := 14) (v := ?_) rfl (by kernel_rfl) (fun _ _ _ h => h) (Or.inl ⟨by rfl, ?_⟩) (by assumption) ?_
          rotate_left
          · (intro w hSw; (try dsimp only at hSw); go_simp; try with_reducible rfl)
          try simp only [Act.put, List.getElem_toArray, List.getElem_cons_zero, List.getElem_cons_succ, List.setIfInBounds_toArray, List.set_cons_zero, List.set_cons_succ]
          refine wpAnyK_take (i := 15) (v := ?_) rfl (by kernel_rfl) (fun _ _ _ h => h) (Or.inl ⟨by rfl, ?_⟩) (by assumption) ?_
          rotate_left
          · (intro w hSw; (try dsimp only at hSw); go_simp; try with_reducible rfl)
          try simp only [Act.put, List.getElem_toArray, List.getElem_cons_zero, List.getElem_cons_succ, List.setIfInBounds_toArray, List.set_cons_zero, List.set_cons_succ]
          refine wpAnyK_take (i := 16) (v := ?_) rfl (by kernel_rfl) (fun _ _ _ h => h) (Or.inl ⟨by rfl, ?_⟩) (by assumption) ?_
          rotate_left
          · (intro w hSw; (try dsimp only at hSw); go_simp; try with_reducible rfl)
          try simp only [Act.put, List.getElem_toArray, List.getElem_cons_zero, List.getElem_cons_succ, List.setIfInBounds_toArray, List.set_cons_zero, List.set_cons_succ]
          refine wpAnyK_step (i := 17) rfl (by kernel_rfl) (fun K hK => ?_)
          go_simp
          with_reducible refine (attained_any8 P y1 y2 a5 n5 cap5 z5 p5 i5 at1 m mc ts (by omega) HPS.out GH.out.1 false ⟨fun h => (by cases h), fun h => absurd h HAT.out⟩ _ T2.out.i T2.out.hx.row T2.out.ra).mono ?_
          rintro e u5 ⟨rfl, hb⟩
          have T3 := Lib.hid (T2.out.call hb)
          clear hb
          refine hK.out _ _ (cks_of T3.out) (fun hHeld3 => ?_)
          clear hK K hHeld2
          try simp only [Act.put, List.getElem_toArray, List.getElem_cons_zero, List.getElem_cons_succ, List.setIfInBounds_toArray, List.set_cons_zero, List.set_cons_succ]
          refine wpAnyK_take (i := 18) (v := ?_) rfl (by kernel_rfl) (fun _ _ _ h => h) (Or.inl ⟨by rfl, ?_⟩) (by assumption) ?_
          rotate_left
          · (intro w hSw; (try dsimp only at hSw); go_simp; try with_reducible rfl)
          try simp only [Act.put, List.getElem_toArray, List.getElem_cons_zero, List.getElem_cons_succ, List.setIfInBounds_toArray, List.set_cons_zero, List.set_cons_succ]
          refine wpAnyK_take (i := 19) (v := ?_) rfl (by kernel_rfl) (fun _ _ _ h => h) (Or.inl ⟨by rfl, ?_⟩) (by assumption) ?_
          rotate_left
          · (intro w hSw; (try dsimp only at hSw); go_simp; try with_reducible rfl)
          try simp only [Act.put, List.getElem_toArray, List.getElem_cons_zero, List.getElem_cons_succ, List.setIfInBounds_toArray, List.set_cons_zero, List.set_cons_succ]
          refine wpAnyK_take (i := 20) (v := undef) rfl (by kernel_rfl) (fun _ _ _ h => h) (Or.inr ⟨by rfl, rfl⟩) (by assumption) ?_
          try simp only [Act.put, List.getElem_toArray, List.getElem_cons_zero, List.getElem_cons_succ, List.setIfInBounds_toArray, List.set_cons_zero, List.set_cons_succ]
          refine wpAnyK_take (i := 21) (v := undef) rfl (by kernel_rfl) (fun _ _ _ h => h) (Or.inr ⟨by rfl, rfl⟩) (by assumption) ?_
          try simp only [Act.put, List.getElem_toArray, List.getElem_cons_zero, List.getElem_cons_succ, List.setIfInBounds_toArray, List.set_cons_zero, List.set_cons_succ]
          refine wpAnyK_take (i := 22) (v := undef) rfl (by kernel_rfl) (fun _ _ _ h => h) (Or.inr ⟨by rfl, rfl⟩) (by assumption) ?_
          try simp only [Act.put, List.getElem_toArray, List.getElem_cons_zero, List.getElem_cons_succ, List.setIfInBounds_toArray, List.set_cons_zero, List.set_cons_succ]
          refine wpAnyK_take (i := 23) (v := ?_) rfl (by kernel_rfl) (fun _ _ _ h => h) (Or.inl ⟨by rfl, ?_⟩) (by assumption) ?_
          rotate_left
          · (intro w hSw; (try dsimp only at hSw); go_simp; try with_reducible rfl)
          try simp only [Act.put, List.getElem_toArray, List.getElem_cons_zero, List.getElem_cons_succ, List.setIfInBounds_toArray, List.set_cons_zero, List.set_cons_succ]
          refine wpAnyK_done (by kernel_rfl) ?_
          simp only [List.drop_succ_cons, List.drop_zero]
          clear hHeld3
          go_wp2_with fail
          go_ret
          exact ⟨rfl, T3.out.below⟩
      · have hbf : b = false := by cases b with
          | false => rfl
          | true => exact absurd (HBX.out.1 rfl).2.1 hmx
        subst hbf
        have t6 : ((m : Int) == (x : Int)) = false := by simpa using (show ¬ (m : Int) = (x : Int) by omega)
        clear hmx
        refine wp_region_keeps (fun u => CKS w P y1 y2 v1.heap.size v3.heap.size a5 n5 cap5 p5 i5 z5 ha hn hcap at1 m mc ts u) 24 1 (by kernel_rfl) (by kernel_rfl) (cks_of C6.out) (fun hHeld0 => ?_)
        refine wpAnyK_take (i := 0) (v := ?_) rfl (by kernel_rfl) (fun _ _ _ h => h) (Or.inl ⟨by rfl, ?_⟩) (by assumption) ?_
        rotate_left
        · (intro w hSw; (try dsimp only at hSw); go_simp; try with_reducible rfl)
        try simp only [Act.put, List.getElem_toArray, List.getElem_cons_zero, List.getElem_cons_succ, List.setIfInBounds_toArray, List.set_cons_zero, List.set_cons_succ]
        refine wpAnyK_take (i := 1) (v := ?_) rfl (by kernel_rfl) (fun _ _ _ h => h) (Or.inl ⟨by rfl, ?_⟩) (by assumption) ?_
        rotate_left
        · (intro w hSw; (try dsimp only at hSw); go_simp; try with_reducible rfl)
        try simp only [Act.put, List.getElem_toArray, List.getElem_cons_zero, List.getElem_cons_succ, List.setIfInBounds_toArray, List.set_cons_zero, List.set_cons_succ]
        refine wpAnyK_step (i := 2) rfl (by kernel_rfl) (fun K hK => ?_)
        go_simp
        with_reducible refine (grows_any8 P y1 y2 a5 n5 cap5 z5 p5 i5 HPS.out GH.out.1 true ⟨fun _ => HGR.out, fun _ => rfl⟩ _ C6.out.i C6.out.hx.row).mono ?_
        rintro e u3 ⟨rfl, hb⟩
        have T1 := Lib.hid (C6.out.call hb)
        clear hb
        refine hK.out _ _ (cks_of T1.out) (fun hHeld1 => ?_)
        clear hK K hHeld0
        try simp only [Act.put, List.getElem_toArray, List.getElem_cons_zero, List.getElem_cons_succ, List.setIfInBounds_toArray, List.set_cons_zero, List.set_cons_succ]
        refine wpAnyK_take (i := 3) (v := ?_) rfl (by kernel_rfl) (fun _ _ _ h => h) (Or.inl ⟨by rfl, ?_⟩) (by assumption) ?_
        rotate_left
        · (intro w hSw; (try dsimp only at hSw); go_simp; try with_reducible rfl)
        try simp only [Act.put, List.getElem_toArray, List.getElem_cons_zero, List.getElem_cons_succ, List.setIfInBounds_toArray, List.set_cons_zero, List.set_cons_succ]
        refine wpAnyK_take (i := 4) (v := ?_) rfl (by kernel_rfl) (fun _ _ _ h => h) (Or.inl ⟨by rfl, ?_⟩) (by assumption) ?_
        rotate_left
        · (intro w hSw; (try dsimp only at hSw); go_simp; try with_reducible rfl)
        try simp only [Act.put, List.getElem_toArray, List.getElem_cons_zero, List.getElem_cons_succ, List.setIfInBounds_toArray, List.set_cons_zero, List.set_cons_succ]
        refine wpAnyK_take (i := 5) (v := ?_) rfl (by kernel_rfl) (fun _ _ _ h => h) (Or.inl ⟨by rfl, ?_⟩) (by assumption) ?_
        rotate_left
        · (intro w hSw; (try dsimp only at hSw); go_simp; try with_reducible rfl)
        try simp only [Act.put, List.getElem_toArray, List.getElem_cons_zero, List.getElem_cons_succ, List.setIfInBounds_toArray, List.set_cons_zero, List.set_cons_succ]
        refine wpAnyK_take (i := 6) (v := ?_) rfl (by kernel_rfl) (fun _ _ _ h => h) (Or.inl ⟨by rfl, ?_⟩) (by assumption) ?_
        rotate_left
        · (intro w hSw; (try dsimp only at hSw); go_simp; try with_reducible rfl)
        try simp only [Act.put, List.getElem_toArray, List.getElem_cons_zero, List.getElem_cons_succ, List.setIfInBounds_toArray, List.set_cons_zero, List.set_cons_succ]
        refine wpAnyK_take (i := 7) (v := ?_) rfl (by kernel_rfl) (fun _ _ _ h => h) (Or.inl ⟨by rfl, ?_⟩) (by assumption) ?_
        rotate_left
        · (intro w hSw; (try dsimp only at hSw); go_simp; try with_reducible rfl)
        try simp only [Act.put, List.getElem_toArray, List.getElem_cons_zero, List.getElem_cons_succ, List.setIfInBounds_toArray, List.set_cons_zero, List.set_cons_succ]
        refine wpAnyK_take (i := 8) (v := ?_) rfl (by kernel_rfl) (fun _ _ _ h => h) (Or.inl ⟨by rfl, ?_⟩) (by assumption) ?_
        rotate_left
        · (intro w hSw; (try dsimp only at hSw); go_simp; try with_reducible rfl)
        try simp only [Act.put, List.getElem_toArray, List.getElem_cons_zero, List.getElem_cons_succ, List.setIfInBounds_toArray, List.set_cons_zero, List.set_cons_succ]
        refine wpAnyK_step (i := 9) rfl (by kernel_rfl) (fun K hK => ?_)
        go_simp
        with_reducible refine (extent_any P y1 y2 a5 n5 cap5 z5 p5 i5 HPS.out GH.out.1 GH.out.2 x HX.out _ T1.out.i T1.out.hx.row).mono ?_
        rintro e u4 ⟨rfl, hb⟩
        have T2 := Lib.hid (T1.out.call hb)
        clear hb
        refine hK.out _ _ (cks_of T2.out) (fun hHeld2 => ?_)
        clear hK K hHeld1
        try simp only [Act.put, List.getElem_toArray, List.getElem_cons_zero, List.getElem_cons_succ, List.setIfInBounds_toArray, List.set_cons_zero, List.set_cons_succ]
        refine wpAnyK_take (i := 10) (v := ?_) rfl (by kernel_rfl) (fun _ _ _ h => h) (Or.inl ⟨by rfl, ?_⟩) (by assumption) ?_
        rotate_left
        · (intro w hSw; (try dsimp only at hSw); go_simp; try with_reducible rfl)
        try simp only [Act.put, List.getElem_toArray, List.getElem_cons_zero, List.getElem_cons_succ, List.setIfInBounds_toArray, List.set_cons_zero, List.set_cons_succ]
        refine wpAnyK_take (i := 11) (v := ?_) rfl (by kernel_rfl) (fun _ _ _ h => h) (Or.inl ⟨by rfl, ?_⟩) (by assumption) ?_
        rotate_left
        · (intro w hSw; (try dsimp only at hSw); go_simp; try with_reducible rfl)
        try simp only [Act.put, List.getElem_toArray, List.getElem_cons_zero, List.getElem_cons_succ, List.setIfInBounds_toArray, List.set_cons_zero, List.set_cons_succ]
        refine wpAnyK_take (i := 12) (v := ?_) rfl (by kernel_rfl) (fun _ _ _ h => h) (Or.inl ⟨by rfl, ?_⟩) (by assumption) ?_
        rotate_left
        · (intro w hSw; (try dsimp only at hSw); go_simp; try with_reducible rfl)
        try simp only [Act.put, List.getElem_toArray, List.getElem_cons_zero, List.getElem_cons_succ, List.setIfInBounds_toArray, List.set_cons_zero, List.set_cons_succ]
        refine wpAnyK_take (i := 13) (v := undef) rfl (by kernel_rfl) (fun _ _ _ h => h) (Or.inr ⟨by rfl, rfl⟩) (by assumption) ?_
        try simp only [Act.put, List.getElem_toArray, List.getElem_cons_zero, List.getElem_cons_succ, List.setIfInBounds_toArray, List.set_cons_zero, List.set_cons_succ]
        refine wpAnyK_take (i := 14) (v := undef) rfl (by kernel_rfl) (fun _ _ _ h => h) (Or.inr ⟨by rfl, rfl⟩) (by assumption) ?_
        try simp only [Act.put, List.getElem_toArray, List.getElem_cons_zero, List.getElem_cons_succ, List.setIfInBounds_toArray, List.set_cons_zero, List.set_cons_succ]
        refine wpAnyK_take (i := 15) (v := undef) rfl (by kernel_rfl) (fun _ _ _ h => h) (Or.inr ⟨by rfl, rfl⟩) (by assumption) ?_
        try simp only [Act.put, List.getElem_toArray, List.getElem_cons_zero, List.getElem_cons_succ, List.setIfInBounds_toArray, List.set_cons_zero, List.set_cons_succ]
        refine wpAnyK_take (i := 16) (v := undef) rfl (by kernel_rfl) (fun _ _ _ h => h) (Or.inr ⟨by rfl, rfl⟩) (by assumption) ?_
        try simp only [Act.put, List.getElem_toArray, List.getElem_cons_zero, List.getElem_cons_succ, List.setIfInBounds_toArray, List.set_cons_zero, List.set_cons_succ]
        refine wpAnyK_take (i := 17) (v := undef) rfl (by kernel_rfl) (fun _ _ _ h => h) (Or.inr ⟨by rfl, rfl⟩) (by assumption) ?_
        try simp only [Act.put, List.getElem_toArray, List.getElem_cons_zero, List.getElem_cons_succ, List.setIfInBounds_toArray, List.set_cons_zero, List.set_cons_succ]
        refine wpAnyK_take (i := 18) (v := ?_) rfl (by kernel_rfl) (fun _ _ _ h => h) (Or.inl ⟨by rfl, ?_⟩) (by assumption) ?_
        rotate_left
        · (intro w hSw; (try dsimp only at hSw); go_simp; try with_reducible rfl)
        try simp only [Act.put, List.getElem_toArray, List.getElem_cons_zero, List.getElem_cons_succ, List.setIfInBounds_toArray, List.set_cons_zero, List.set_cons_succ]
        refine wpAnyK_take (i := 19) (v := ?_) rfl (by kernel_rfl) (fun _ _ _ h => h) (Or.inl ⟨by rfl, ?_⟩) (by assumption) ?_
        rotate_left
        · (intro w hSw; (try dsimp only at hSw); go_simp; try with_reducible rfl)
        try simp only [Act.put, List.getElem_toArray, List.getElem_cons_zero, List.getElem_cons_succ, List.setIfInBounds_toArray, List.set_cons_zero, List.set_cons_succ]
        refine wpAnyK_take (i := 20) (v := undef) rfl (by kernel_rfl) (fun _ _ _ h => h) (Or.inr ⟨by rfl, rfl⟩) (by assumption) ?_
        try simp only [Act.put, List.getElem_toArray, List.getElem_cons_zero, List.getElem_cons_succ, List.setIfInBounds_toArray, List.set_cons_zero, List.set_cons_succ]
        refine wpAnyK_take (i := 21) (v := undef) rfl (by kernel_rfl) (fun _ _ _ h => h) (Or.inr ⟨by rfl, rfl⟩) (by assumption) ?_
        try simp only [Act.put, List.getElem_toArray, List.getElem_cons_zero, List.getElem_cons_succ, List.setIfInBounds_toArray, List.set_cons_zero, List.set_cons_succ]
        refine wpAnyK_take (i := 22) (v := undef) rfl (by kernel_rfl) (fun _ _ _ h => h) (Or.inr ⟨by rfl, rfl⟩) (by assumption) ?_
        try simp only [Act.put, List.getElem_toArray, List.getElem_cons_zero, List.getElem_cons_succ, List.setIfInBounds_toArray, List.set_cons_zero, List.set_cons_succ]
        refine wpAnyK_take (i := 23) (v := ?_) rfl (by kernel_rfl) (fun _ _ _ h => h) (Or.inl ⟨by rfl, ?_⟩) (by assumption) ?_
        rotate_left
        · (intro w hSw; (try dsimp only at hSw); go_simp; try with_reducible rfl)
        try simp only [Act.put, List.getElem_toArray, List.getElem_cons_zero, List.getElem_cons_succ, List.setIfInBounds_toArray, List.set_cons_zero, List.set_cons_succ]
        refine wpAnyK_done (by kernel_rfl) ?_
        simp only [List.drop_succ_cons, List.drop_zero]
        clear hHeld2
        go_wp2_with fail
        go_ret
        exact ⟨rfl, T2.out.below⟩
    · have hbf : b = false := by cases b with
        | false => rfl
        | true => exact absurd (HBX.out.1 rfl).1 hg
      subst hbf
      have HGR := Lib.hid hg
      clear hg
      refine wp_region_keeps (fun u => CKS w P y1 y2 v1.heap.size v3.heap.size a5 n5 cap5 p5 i5 z5 ha hn hcap at1 m mc ts u) 24 1 (by kernel_rfl) (by kernel_rfl) (cks_of C6.out) (fun hHeld0 => ?_)
      refine wpAnyK_take (i := 0) (v := ?_) rfl (by kernel_rfl) (fun _ _ _ h => h) (Or.inl ⟨by rfl, ?_⟩) (by assumption) ?_
      rotate_left
      · (intro w hSw; (try dsimp only at hSw); go_simp; try with_reducible rfl)
      try simp only [Act.put, List.getElem_toArray, List.getElem_cons_zero, List.getElem_cons_succ, List.setIfInBounds_toArray, List.set_cons_zero, List.set_cons_succ]
      refine wpAnyK_take (i := 1) (v := ?_) rfl (by kernel_rfl) (fun _ _ _ h => h) (Or.inl ⟨by rfl, ?_⟩) (by assumption) ?_
      rotate_left
      · (intro w hSw; (try dsimp only at hSw); go_simp; try with_reducible rfl)
      try simp only [Act.put, List.getElem_toArray, List.getElem_cons_zero, List.getElem_cons_succ, List.setIfInBounds_toArray, List.set_cons_zero, List.set_cons_succ]
      refine wpAnyK_step (i := 2) rfl (by kernel_rfl) (fun K hK => ?_)
      go_simp
      with_reducible refine (grows_any8 P y1 y2 a5 n5 cap5 z5 p5 i5 HPS.out GH.out.1 false ⟨fun h => (by cases h), fun h => absurd h HGR.out⟩ _ C6.out.i C6.out.hx.row).mono ?_
      rintro e u3 ⟨rfl, hb⟩
      have T1 := Lib.hid (C6.out.call hb)
      clear hb
      refine hK.out _ _ (cks_of T1.out) (fun hHeld1 => ?_)
      clear hK K hHeld0
      try simp only [Act.put, List.getElem_toArray, List.getElem_cons_zero, List.getElem_cons_succ, List.setIfInBounds_toArray, List.set_cons_zero, List.set_cons_succ]
      refine wpAnyK_take (i := 3) (v := ?_) rfl (by kernel_rfl) (fun _ _ _ h => h) (Or.inl ⟨by rfl, ?_⟩) (by assumption) ?_
      rotate_left
      · (intro w hSw; (try dsimp only at hSw); go_simp; try with_reducible rfl)
      try simp only [Act.put, List.getElem_toArray, List.getElem_cons_zero, List.getElem_cons_succ, List.setIfInBounds_toArray, List.set_cons_zero, List.set_cons_succ]
      refine wpAnyK_take (i := 4) (v := undef) rfl (by kernel_rfl) (fun _ _ _ h => h) (Or.inr ⟨by rfl, rfl⟩) (by assumption) ?_
      try simp only [Act.put, List.getElem_toArray, List.getElem_cons_zero, List.getElem_cons_succ, List.setIfInBounds_toArray, List.set_cons_zero, List.set_cons_succ]
      refine wpAnyK_take (i := 5) (v := undef) rfl (by kernel_rfl) (fun _ _ _ h => h) (Or.inr ⟨by rfl, rfl⟩) (by assumption) ?_
      try simp only [Act.put, List.getElem_toArray, List.getElem_cons_zero, List.getElem_cons_succ, List.setIfInBounds_toArray, List.set_cons_zero, List.set_cons_succ]
      refine wpAnyK_take (i := 6) (v := undef) rfl (by kernel_rfl) (fun _ _ _ h => h) (Or.inr ⟨by rfl, rfl⟩) (by assumption) ?_
      try simp only [Act.put, List.getElem_toArray, List.getElem_cons_zero, List.getElem_cons_succ, List.setIfInBounds_toArray, List.set_cons_zero, List.set_cons_succ]
      refine wpAnyK_take (i := 7) (v := undef) rfl (by kernel_rfl) (fun _ _ _ h => h) (Or.inr ⟨by rfl, rfl⟩) (by assumption) ?_
      try simp only [Act.put, List.getElem_toArray, List.getElem_cons_zero, List.getElem_cons_succ, List.setIfInBounds_toArray, List.set_cons_zero, List.set_cons_succ]
      refine wpAnyK_take (i := 8) (v := undef) rfl (by kernel_rfl) (fun _ _ _ h => h) (Or.inr ⟨by rfl, rfl⟩) (by assumption) ?_
      try simp only [Act.put, List.getElem_toArray, List.getElem_cons_zero, List.getElem_cons_succ, List.setIfInBounds_toArray, List.set_cons_zero, List.set_cons_succ]
      refine wpAnyK_take (i := 9) (v := undef) rfl (by kernel_rfl) (fun _ _ _ h => h) (Or.inr ⟨by rfl, rfl⟩) (by assumption) ?_
      try simp only [Act.put, List.getElem_toArray, List.getElem_cons_zero, List.getElem_cons_succ, List.setIfInBounds_toArray, List.set_cons_zero, List.set_cons_succ]
      refine wpAnyK_take (i := 10) (v := undef) rfl (by kernel_rfl) (fun _ _ _ h => h) (Or.inr ⟨by rfl, rfl⟩) (by assumption) ?_
      try simp only [Act.put, List.getElem_toArray, List.getElem_cons_zero, List.getElem_cons_succ, List.setIfInBounds_toArray, List.set_cons_zero, List.set_cons_succ]
      refine wpAnyK_take (i := 11) (v := ?_) rfl (by kernel_rfl) (fun _ _ _ h => h) (Or.inl ⟨by rfl, ?_⟩) (by assumption) ?_
      rotate_left
      · (intro w hSw; (try dsimp only at hSw); go_simp; try with_reducible rfl)
      try simp only [Act.put, List.getElem_toArray, List.getElem_cons_zero, List.getElem_cons_succ, List.setIfInBounds_toArray, List.set_cons_zero, List.set_cons_succ]
      refine wpAnyK_take (i := 12) (v := ?_) rfl (by kernel_rfl) (fun _ _ _ h => h) (Or.inl ⟨by rfl, ?_⟩) (by assumption) ?_
      rotate_left
      · (intro w hSw; (try dsimp only at hSw); go_simp; try with_reducible rfl)
      try simp only [Act.put, List.getElem_toArray, List.getElem_cons_zero, List.getElem_cons_succ, List.setIfInBounds_toArray, List.set_cons_zero, List.set_cons_succ]
      refine wpAnyK_take (i := 13) (v := undef) rfl (by kernel_rfl) (fun _ _ _ h => h) (Or.inr ⟨by rfl, rfl⟩) (by assumption) ?_
      try simp only [Act.put, List.getElem_toArray, List.getElem_cons_zero, List.getElem_cons_succ, List.setIfInBounds_toArray, List.set_cons_zero, List.set_cons_succ]
      refine wpAnyK_take (i := 14) (v := undef) rfl (by kernel_rfl) (fun _ _ _ h => h) (Or.inr ⟨by rfl, rfl⟩) (by assumption) ?_
      try simp only [Act.put, List.getElem_toArray, List.getElem_cons_zero, List.getElem_cons_succ, List.setIfInBounds_toArray, List.set_cons_zero, List.set_cons_succ]
      refine wpAnyK_take (i := 15) (v := undef) rfl (by kernel_rfl) (fun _ _ _ h => h) (Or.inr ⟨by rfl, rfl⟩) (by assumption) ?_
      try simp only [Act.put, List.getElem_toArray, List.getElem_cons_zero, List.getElem_cons_succ, List.setIfInBounds_toArray, List.set_cons_zero, List.set_cons_succ]
      refine wpAnyK_take (i := 16) (v := undef) rfl (by kernel_rfl) (fun _ _ _ h => h) (Or.inr ⟨by rfl, rfl⟩) (by assumption) ?_
      try simp only [Act.put, List.getElem_toArray, List.getElem_cons_zero, List.getElem_cons_succ, List.setIfInBounds_toArray, List.set_cons_zero, List.set_cons_succ]
      refine wpAnyK_take (i := 17) (v := undef) rfl (by kernel_rfl) (fun _ _ _ h => h) (Or.inr ⟨by rfl, rfl⟩) (by assumption) ?_
      try simp only [Act.put, List.getElem_toArray, List.getElem_cons_zero, List.getElem_cons_succ, List.setIfInBounds_toArray, List.set_cons_zero, List.set_cons_succ]
      refine wpAnyK_take (i := 18) (v := ?_) rfl (by kernel_rfl) (fun _ _ _ h => h) (Or.inl ⟨by rfl, ?_⟩) (by assumption) ?_
      rotate_left
      · (intro w hSw; (try dsimp only at hSw); go_simp; try with_reducible rfl)
      try simp only [Act.put, List.getElem_toArray, List.getElem_cons_zero, List.getElem_cons_succ, List.setIfInBounds_toArray, List.set_cons_zero, List.set_cons_succ]
      refine wpAnyK_take (i := 19) (v := ?_) rfl (by kernel_rfl) (fun _ _ _ h => h) (Or.inl ⟨by rfl, ?_⟩) (by assumption) ?_
      rotate_left
      · (intro w hSw; (try dsimp only at hSw); go_simp; try with_reducible rfl)
      try simp only [Act.put, List.getElem_toArray, List.getElem_cons_zero, List.getElem_cons_succ, List.setIfInBounds_toArray, List.set_cons_zero, List.set_cons_succ]
      refine wpAnyK_take (i := 20) (v := undef) rfl (by kernel_rfl) (fun _ _ _ h => h) (Or.inr ⟨by rfl, rfl⟩) (by assumption) ?_
      try simp only [Act.put, List.getElem_toArray, List.getElem_cons_zero, List.getElem_cons_succ, List.setIfInBounds_toArray, List.set_cons_zero, List.set_cons_succ]
      refine wpAnyK_take (i := 21) (v := undef) rfl (by kernel_rfl) (fun _ _ _ h => h) (Or.inr ⟨by rfl, rfl⟩) (by assumption) ?_
      try simp only [Act.put, List.getElem_toArray, List.getElem_cons_zero, List.getElem_cons_succ, List.setIfInBounds_toArray, List.set_cons_zero, List.set_cons_succ]
      refine wpAnyK_take (i := 22) (v := undef) rfl (by kernel_rfl) (fun _ _ _ h => h) (Or.inr ⟨by rfl, rfl⟩) (by assumption) ?_
      try simp only [Act.put, List.getElem_toArray, List.getElem_cons_zero, List.getElem_cons_succ, List.setIfInBounds_toArray, List.set_cons_zero, List.set_cons_succ]
      refine wpAnyK_take (i := 23) (v := ?_) rfl (by kernel_rfl) (fun _ _ _ h => h) (Or.inl ⟨by rfl, ?_⟩) (by assumption) ?_
      rotate_left
      · (intro w hSw; (try dsimp only at hSw); go_simp; try with_reducible rfl)
      try simp only [Act.put, List.getElem_toArray, List.getElem_cons_zero, List.getElem_cons_succ, List.setIfInBounds_toArray, List.set_cons_zero, List.set_cons_succ]
      refine wpAnyK_done (by kernel_rfl) ?_
      simp only [List.drop_succ_cons, List.drop_zero]
      clear hHeld1
      go_wp2_with fail
      go_ret
      exact ⟨rfl, T1.out.below⟩

end Go.Proofs.Ytcbocglakielnaa

namespace Go.Proofs.Ytcbocglakielnaa
open Go.RowKit
set_option linter.unusedSimpArgs false
set_option linter.unusedVariables false

section
variable {y1 y2 hs : List Int} {q1 q2 r L : Nat} {j1 j2 knc : Int}
theorem form_at {E : Nat → Option Int} (h : EForm hs r knc E) (t : Nat) : atC hs r knc t = encF E t := by rw [← enc_eC hs r knc t, h.2.1 t]; rfl

/-- The certificate that is made is one. -/
theorem proves_of (d : Dec y1 q1 j1 y2 q2 j2 L) (hf : EForm hs r knc (eDec y1 q1 j1 y2 q2 j2)) {ts : List Int} (h1 : Steep y1 q1 j1 y2 q2 j2 L → ts = [])
    (h2 : ¬ Steep y1 q1 j1 y2 q2 j2 L → ts = firsts (fun t => ((firstTo (atC y1 q1 j1) (atC y2 q2 j2) t (reach y1 q1 y2 q2 L) : Nat) : Int)) y1.length) : ProvesDec y1 q1 j1 y2 q2 j2 L hs r knc ts := by
  have hat := form_at hf
  refine ⟨fun hs1 => ⟨?_, by rw [h1 hs1]; rfl⟩, fun hs1 => ?_⟩
  · have e := hat 0
    rw [encF_none (dec_steep d.g d.k d.h0 d.m hs1 0)] at e
    have := hf.1.p1; have := hf.1.p3
    rwa [atC_lt (by omega)] at e
  · have fo := d.from hs1
    obtain ⟨c, hc⟩ := fo.per
    have hst := form_start hf hc d.g.p1
    have hfew := d.g.few; have hp1 := d.g.p1; have hp3 := d.g.p3
    rw [h2 hs1, firsts_length]
    refine ⟨?_, by omega, fun t ht => ?_, fun t u ht hu => ?_⟩
    · by_cases f1 : InfC y1
      · have hi : InfC hs := (eC_none.1 (show eC hs r knc (y1.length - q1) = none by rw [hf.2.1]; exact d.none_late f1 (Nat.le_refl _))).1
        rw [growI_inf hi, growI_inf f1, (hf.1.tailI hi).1]
        exact ⟨Nat.mod_one _, rfl⟩
      · have hp := d.shift hs1 f1 (d.g.per f1)
        have hi : ¬ InfC hs := fin_of_some hf.1 fun t => by
          obtain ⟨v, e, _⟩ := dec_fin d.g d.k d.h0 d.nk d.m hs1 f1 t
          exact ⟨v, by rw [hf.2.1]; exact e⟩
        obtain ⟨_, _, s, hl, hn⟩ := hf
        rw [show encF (eDec y1 q1 j1 y2 q2 j2) = atC hs r knc from (funext hat).symm] at hp
        obtain ⟨e1, e2⟩ := hn.divides hp
        rw [growI_fin hi, growI_fin f1, Nat.div_self (by omega)]
        exact ⟨e1, by rw [← e2]; omega⟩
    · rw [firsts_getD _ _ _ ht]
      have := first_at (F := atC y1 q1 j1) (G := atC y2 q2 j2) (t := t) d.reach1 (d.first0 t) d.h0
      refine ⟨by omega, by omega, ?_⟩
      rw [hat, (d.val hs1 (by omega)).1, Int.toNat_natCast]
      exact this.2.1
    · rw [hat, (d.val hs1 (by omega)).1]
      exact mostTo_le hu

/-- A curve's deconvolution by itself has no certificate whose Result begins with a finite positive value. -/
theorem proves_self (d : Dec y1 q1 j1 y1 q1 j1 L) {ts : List Int} (h0 : 0 < atC hs r knc 0) (hi : ¬ atC hs r knc 0 = infV) : ¬ ProvesDec y1 q1 j1 y1 q1 j1 L hs r knc ts := fun h => by
  have hns : ¬ Steep y1 q1 j1 y1 q1 j1 L := fun k => by have := k.2.2; omega
  obtain ⟨_, hl, ht, _⟩ := h.2 hns
  have := d.g.p1
  obtain ⟨_, _, e⟩ := ht 0 (by omega)
  unfold gainI at e
  rw [Nat.zero_add] at e
  split at e
  · exact hi e.symm
  · omega
end

/-! ## The examples -/

theorem g8_good : Good [0, 0, 0, 0] 1 4 := (okC_iff [0, 0, 0, 0] 1 4).1 (by decide)
theorem h8_good : Good [14] 1 2 := (okC_iff [14] 1 2).1 (by decide)
theorem a8_good : Good [0] 1 5 := (okC_iff [0] 1 5).1 (by decide)
theorem b8_good : Good [0] 1 3 := (okC_iff [0] 1 3).1 (by decide)
theorem f8_good : Good [0, 10, 12] 1 2 := (okC_iff [0, 10, 12] 1 2).1 (by decide)

theorem per1 {zs : List Int} {inc : Int} (g : Good zs 1 inc) (hf : ¬ InfC zs) {s : Nat} (hs : zs.length = s + 1) (k : Nat) : atC zs 1 inc (s + k) = zs.getD s 0 + (k : Int) * inc := by
  have h := ((g.per hf).mul k) s (by omega)
  rw [Nat.mul_one] at h
  rw [h, atC_lt (by omega)]

theorem f8_fin : ¬ InfC [0, 10, 12] := by rw [infC_iff]; decide
theorem g8_fin : ¬ InfC [0, 0, 0, 0] := by rw [infC_iff]; decide
theorem h8_fin : ¬ InfC [14] := by rw [infC_iff]; decide
theorem a8_fin : ¬ InfC [0] := by rw [infC_iff]; decide
theorem f8_at (t : Nat) : atC [0, 10, 12] 1 2 t = if t = 0 then 0 else 8 + 2 * (t : Int) := by
  rcases (show t = 0 ∨ t = 1 ∨ 2 ≤ t by omega) with rfl | rfl | h
  · rfl
  · rfl
  · obtain ⟨k, rfl⟩ : ∃ k, t = 2 + k := ⟨t - 2, by omega⟩
    rw [per1 f8_good f8_fin (s := 2) rfl k, if_neg (by omega)]
    show 12 + (k : Int) * 2 = _
    omega
theorem g8_at (t : Nat) : atC [0, 0, 0, 0] 1 4 t = if t ≤ 3 then 0 else 4 * ((t : Int) - 3) := by
  rcases (show t = 0 ∨ t = 1 ∨ t = 2 ∨ 3 ≤ t by omega) with rfl | rfl | rfl | h
  · rfl
  · rfl
  · rfl
  · obtain ⟨k, rfl⟩ : ∃ k, t = 3 + k := ⟨t - 3, by omega⟩
    rw [per1 g8_good g8_fin (s := 3) rfl k]
    show 0 + (k : Int) * 4 = _
    split <;> omega
theorem h8_at (t : Nat) : atC [14] 1 2 t = 14 + 2 * (t : Int) := by
  have := per1 h8_good h8_fin (s := 0) rfl t
  rw [Nat.zero_add] at this
  rw [this]; show 14 + (t : Int) * 2 = _; omega
theorem ex_dec : eDec [0, 10, 12] 1 2 [0, 0, 0, 0] 1 4 = eC [14] 1 2 := funext fun t => by
  have h0 : eC [0, 0, 0, 0] 1 4 0 = some 0 := eC_zero0 g8_good rfl
  rw [eC_fin h8_fin, h8_at]
  refine dec_eq h0 ⟨fun u y hy => ?_, fun v hv => ?_⟩
  · rw [eC_fin g8_fin] at hy; cases hy
    rw [eC_fin f8_fin]
    refine ole_some ?_
    rw [f8_at, g8_at]
    split <;> split <;> omega
  · cases v with
    | none => exact ole_none _
    | some x =>
      have h3 := hv 3 _ (eC_fin g8_fin 1 4 3)
      rw [eC_fin f8_fin, g8_at, f8_at] at h3
      obtain ⟨z, hz, hzl⟩ := h3 _ rfl
      cases hz
      rw [if_neg (by omega)] at hzl
      exact ole_some (by simp at hzl; omega)
theorem ex_form : EForm [14] 1 2 (eC [14] 1 2) :=
  ⟨h8_good, fun _ => rfl, 0, rfl, ⟨fun t _ => by rw [h8_at, h8_at]; omega, by omega, fun q h1 h2 => by omega, .inl rfl⟩⟩
theorem ex_can8 : ECan (eDec [0, 10, 12] 1 2 [0, 0, 0, 0] 1 4) := by rw [ex_dec]; exact self_can h8_good

theorem ex_steep : eDec [0] 1 5 [0] 1 3 = fun _ => none := funext fun t =>
  dec_steep a8_good b8_good rfl (L := 1) ⟨by omega, rfl, rfl⟩ ⟨a8_fin, a8_fin, by rw [growI_fin a8_fin, growI_fin a8_fin]; decide⟩ t
theorem ex_can9 : ECan (eDec [0] 1 5 [0] 1 3) := by rw [ex_steep]; exact inf_form.can

/-! ## Drawn second curves -/

theorem zero_nice {zs : List Int} {p : Nat} {inc : Int} (g : Good zs p inc) (hf : ¬ InfC zs) (h : Sm2 zs p inc) : Nice 500000 (eC zs p inc) := by
  obtain ⟨⟨h1, h2, h3, h4⟩, h5⟩ := h
  have hs : ∀ i, i < zs.length → zs.getD i 0 ≤ 10000 := fun i hi => by
    have := g.small hf hi
    rcases h4 i hi with h | h
    · exact h
    · rw [h] at this; unfold infV at this; omega
  refine nice_of g h1 h5 fun t x ht hx => ?_
  rw [eC_fin hf] at hx; cases hx
  by_cases hlt : t < zs.length
  · rw [atC_lt hlt]; have := hs t hlt; omega
  · have := g.p1; have := g.p3
    rw [atC_ge hf (by omega)]
    obtain ⟨_, _, e3⟩ := idx_facts g.p1 g.p3 (show zs.length ≤ t by omega)
    have e4 := hs _ e3
    have e5 : (t - zs.length) / p ≤ t - zs.length := Nat.div_le_self _ _
    have e6 : ((((t - zs.length) / p + 1 : Nat)) : Int) * inc ≤ 401 * 1000 := Int.mul_le_mul (by omega) h3 g.i0 (by omega)
    omega

theorem getD_snoc {zs : List Int} {x : Int} {i : Nat} : (zs ++ [x]).getD i 0 = if i < zs.length then zs.getD i 0 else if i = zs.length then x else 0 := by
  rcases Nat.lt_trichotomy i zs.length with h | h | h
  · rw [if_pos h]; simp [List.getD, List.getElem?_append, h]
  · subst h; simp [List.getD]
  · rw [if_neg (by omega), if_neg (by omega)]
    have : zs.length + 1 ≤ i := h
    simp [List.getD, List.getElem?_append, show ¬ i < zs.length by omega, show ¬ i - zs.length = 0 by omega]

theorem snoc_good {zs : List Int} {p : Nat} {inc : Int} (g : Good zs p inc) (hf : ¬ InfC zs) (h : zs.length ≤ 16) : Good (zs ++ [4611686018427387904]) 1 0 ∧ InfC (zs ++ [4611686018427387904]) := by
  have hl : (zs ++ [4611686018427387904]).length = zs.length + 1 := by simp
  have hlast : InfC (zs ++ [4611686018427387904]) := by
    rw [infC_iff, hl, getD_snoc, if_neg (by omega), if_pos (by omega)]
  refine ⟨⟨by omega, by omega, by omega, by omega, by omega, by omega, fun i hi => ?_, fun i hi => ?_, fun _ => ⟨rfl, rfl⟩, fun k => absurd hlast k⟩, hlast⟩
  · rw [getD_snoc]
    by_cases h1 : i < zs.length
    · rw [if_pos h1]; exact .inl (g.small hf h1)
    · rw [if_neg h1, if_pos (by omega)]; exact .inr rfl
  · rw [getD_snoc, getD_snoc, if_pos (by omega)]
    by_cases h1 : i + 1 < zs.length
    · rw [if_pos h1]; exact g.mono i h1
    · rw [if_neg h1, if_pos (by omega)]; have := g.small hf (show i < zs.length by omega); omega

theorem snoc_nice {zs : List Int} {p : Nat} {inc : Int} (g : Good zs p inc) (hf : ¬ InfC zs) (h : Sm2 zs p inc) : Nice 500000 (eC (zs ++ [4611686018427387904]) 1 0) := by
  obtain ⟨g2, hi⟩ := snoc_good g hf h.1.1
  have hl : (zs ++ [4611686018427387904]).length = zs.length + 1 := by simp
  have hlen := h.1.1
  refine ⟨fun t => eC_up g2, fun t x y => eC_mono g2, fun t x ht hx => ⟨(eC_bd g2 hx).1, ?_⟩, .inl fun t ht => eC_late g2 hi (by omega)⟩
  have e := (eC_bd g2 hx).2.2
  have hlt : t < zs.length := Nat.lt_of_not_le fun hle => by rw [eC_late g2 hi (by omega)] at hx; cases hx
  rw [atC_lt (by omega), getD_snoc, if_pos hlt] at e
  have := g.small hf hlt
  rcases h.1.2.2.2 t hlt with h | h
  · omega
  · rw [h] at this; unfold infV at this; omega

end Go.Proofs.Ytcbocglakielnaa

namespace Go.Proofs.Ytcbocglakielnaa
open Go.RowKit
set_option linter.unusedSimpArgs false
set_option linter.unusedVariables false

/-- A curve that is 0 at the tick 0 is handed back, in memory of the call's own; of the elder blocks only the reader's has turned. -/
def GivesSecond (b : Nat) (a : Option Addr) (n cap : Nat) (w : World) (e : Ending) (w' : World) : Prop :=
  ∃ (a' : Option Addr) (n' cap' : Nat) (zs : List Int) (p : Nat) (inc : Int), e = .returned (curV a' n' cap' p inc) ∧ SrcAt w' b a n cap ∧ Apart b w w' ∧ RowZ w' a' n' cap' zs ∧ Good zs p inc ∧ atC zs p inc 0 = 0 ∧ Nice 500000 (eC zs p inc) ∧ ∀ x, a' = some x → w.heap.size ≤ x.block

theorem second_post {b n cap n' cap' p : Nat} {a a' : Option Addr} {zs : List Int} {inc : Int} {w w9 : World} (HD : Held w b a n cap w9) (hS : SrcAt w b a n cap) (hbl : b < w.heap.size) (hr : RowZ w9 a' n' cap' zs) (hx : ∀ x, a' = some x → w.heap.size < x.block) (g : Good zs p inc) (h0 : atC zs p inc 0 = 0) (hn : Nice 500000 (eC zs p inc)) :
    GivesSecond b a n cap w (.returned (curV a' n' cap' p inc)) (((w9.setCell ⟨w.heap.size, 0, none⟩ (.slice a' n' cap')).setCell ⟨w.heap.size, 1, none⟩ (.int .i64 p)).setCell ⟨w.heap.size, 2, none⟩ (.int .i64 inc)) :=
  have H := ((HD.set hbl (p := ⟨w.heap.size, 0, none⟩) (Nat.le_refl _) (.slice a' n' cap')).set hbl (p := ⟨w.heap.size, 1, none⟩) (Nat.le_refl _) (.int .i64 p)).set hbl (p := ⟨w.heap.size, 2, none⟩) (Nat.le_refl _) (.int .i64 inc)
  ⟨a', n', cap', zs, p, inc, rfl, H.at hS, H.ap, ((hr.store (fun x h _ => Nat.ne_of_gt (hx x h)) _ _).store (fun x h _ => Nat.ne_of_gt (hx x h)) _ _).store (fun x h _ => Nat.ne_of_gt (hx x h)) _ _, g, h0, hn, fun x h => Nat.le_of_lt (hx x h)⟩

set_option maxRecDepth 100000 in
set_option maxHeartbeats 6400000 in
theorem second_any (most : Nat) (hm1 : 1 ≤ most) (hm9 : most ≤ 9) (b : Nat) (a : Option Addr) (n cap : Nat) (w : World) (h : SrcAt w b a n cap) :
    Calls Try.prog 44 #[.pointer (some ⟨b, 0, none⟩), .int .i64 most] w (GivesSecond b a n cap w) := by
  obtain ⟨i0, hi, hz0, hz1, hz2⟩ := info_parts info_int
  have HS := Lib.hid h
  have hbl := h.lt
  have HD0 := Lib.hid ((Held.start h).alloc (.cells #[.slice none 0 0, .int .i64 0, .int .i64 0] 24))
  have KR0 := Lib.hid (Cur3.new w (.slice none 0 0) (.int .i64 0) (.int .i64 0) 24)
  clear h
  go_enter Try.func44, Try.ntmps44
  go_wp2_with fail
  refine (zero_any2 most hm1 hm9 b a n cap _ (HD0.out.at HS.out)).mono ?_
  rintro e w1 ⟨a1, n1, cap1, zs, p, inc, rfl, hs1, he1, hr1, hg1, hf1, h01, hsm1, hx1⟩
  have hsz : (w.alloc (.cells #[.slice none 0 0, .int .i64 0, .int .i64 0] 24)).heap.size = w.heap.size + 1 := by simp
  have hle := he1.size
  rw [hsz] at hle
  have hl1 : 1 ≤ n1 := by have := hr1.len; have := hg1.p1; have := hg1.p3; omega
  have Z1 := Lib.hid (show Zr w b a n cap w1.heap.size a1 n1 cap1 p inc zs (w1.alloc (.cells #[.slice a1 n1 cap1, .int .i64 p, .int .i64 inc] 24)) from
    ⟨(HD0.out.call hs1 he1).alloc _, Cur3.new w1 _ _ _ _, (KR0.out.apart he1 (by omega)).alloc _, hr1.alloc _, hg1, hsm1, fun x hx => by
      have h1 := hx1 x hx
      rw [hsz] at h1
      have h2 := row_lt hr1 hl1 x hx
      exact ⟨by omega, by omega⟩, by omega, hbl⟩)
  have HF1 := Lib.hid (And.intro hf1 h01)
  clear hs1 he1 hr1 hg1 hf1 h01 hsm1 hx1 hsz KR0 HD0
  go_wp2_with fail
  generalize w1.alloc (.cells #[.slice a1 n1 cap1, .int .i64 p, .int .i64 inc] 24) = w2 at Z1 ⊢
  obtain ⟨F, hFe⟩ : ∃ F, w1.heap.size = F := ⟨_, rfl⟩
  rw [hFe] at Z1 hle ⊢
  clear hFe
  refine (n_any 5 (by omega) (by omega) b a n cap _ (Z1.out.held.at HS.out)).mono ?_
  rintro e w3 ⟨r, hr, rfl, hs, he⟩
  have Z2 := Lib.hid (Z1.out.call hs he.apart)
  clear hs he hr Z1
  by_cases h0 : r = 0
  · have h0' : (r == 0) = true := by simpa using h0
    clear h0
    have hF1 := Z2.out.hF
    have hlen := Z2.out.row.len
    have hsm := Z2.out.sm.1.1
    have HL := Lib.hid hlen
    have hn16 : n1 ≤ 16 := by omega
    have hcm := Z2.out.row.sm
    obtain ⟨x, rfl, cv⟩ := Z2.out.row.cell 0 (by omega)
    obtain ⟨c0, c1, c2, f0, f1, f2⟩ := Z2.out.bf
    have hl3 : F < w3.heap.size := Z2.out.bf.lt
    have hO := Lib.hid (show (w3.alloc (.cells #[] 3)).ownsRow (F + 1) 3 1 (.slice (some ⟨w3.heap.size, 0, none⟩) 0 0) 0 [] from World.ownsRow_made w3 #[] 0 (by omega) (Nat.zero_le _) rfl)
    have hN := Lib.hid (newsRow (Z2.out.row.alloc (.cells #[] 3)))
    have hb4 : F + 1 ≤ (w3.alloc (.cells #[] 3)).heap.size := by have := Z2.out.bf.lt; simp; omega
    have HB4 := Lib.hid hb4
    have q4 : 0 < n1 := by omega
    clear hb4 hlen cv
    go_wp2_with (at_builtin; refine wpList_append_lies _ rfl _ _ 22 rfl (F + 1) 3 i0 (.int .i64 0) 1 8 Try.underlying22 hi hz0 hz1 hz2 rfl (by decide) (.slice (some ⟨w3.heap.size, 0, none⟩) 0 0) 0 [] rfl hO.out x n1 cap1 (zs.map (Value.int .i64)) rfl ?c1 hN.out ?c2 q4 ?c3 ?c4 HB4.out _ rfl ?_)
    case c1 => rw [List.length_map, Nat.mul_one]; exact HL.out
    case c2 => exact one_ints zs
    case c3 => unfold maxLen; omega
    case c4 => omega
    intro g cap2 w4 hown hgrow hat hlt4
    have hat2 := hatOf hat
    have hge : w3.heap.size ≤ g := by omega
    have hFg : F < g := by omega
    have KF4 := Lib.hid ((Z2.out.bf.alloc (.cells #[] 3)).grownS hgrow (by omega))
    have KR4 := Lib.hid ((Z2.out.br.alloc (.cells #[] 3)).grownS hgrow (by omega))
    have HD4 := Lib.hid ((Z2.out.held.alloc (.cells #[] 3)).grown hbl hgrow (fun j hj => by have e : w3.heap.size = j := Option.some.inj hj; omega))
    have HO4 := Lib.hid hown
    have HGD := Lib.hid (And.intro Z2.out.good Z2.out.sm)
    clear hown hgrow hat hat2 hlt4 c0 c1 c2 f0 f1 f2 Z2 hO hN HB4
    obtain ⟨c0, c1, c2, f0, f1, f2⟩ := KF4.out
    go_wp2_with (at_builtin; refine wpList_append_own _ rfl _ _ 22 rfl (F + 1) 3 i0 (.int .i64 0) 1 8 Try.underlying22 hi hz0 hz1 hz2 rfl (by decide) _ _ _ rfl (HO4.out.alloc _) ⟨w4.heap.size, 0, none⟩ 1 1 [.int .i64 4611686018427387904] rfl rfl ?k1 ?k2 ?k3 ?k4 ?k5 ?_)
    case k1 =>
      intro j u hj
      match j, hj with
      | 0, hj => simp at hj; subst hj; simp [Addr.add]
    case k2 => intro u hu; simp at hu; subst hu; rfl
    case k3 => unfold maxLen; omega
    case k4 => omega
    case k5 => have := KF4.out.lt; simp; omega
    intro v' w6 hown' hgrow _
    obtain ⟨g6, cap6, rfl, hg6, hg6'⟩ := hown'.form (Nat.succ_pos _)
    have hrow : ∀ j, (Value.slice (some ⟨g, 0, none⟩) n1 cap2).ownBlock = some j → F < j := fun j hj => by cases hj; exact hFg
    have HD6 := Lib.hid ((HD4.out.alloc (.cells #[.int .i64 4611686018427387904] 3)).grown hbl hgrow (fun j hj => by have := hrow j hj; omega))
    have KR6 := Lib.hid ((KR4.out.alloc (.cells #[.int .i64 4611686018427387904] 3)).grown hgrow (fun j hj => by have := hrow j hj; omega))
    have KF6 := Lib.hid ((KF4.out.alloc (.cells #[.int .i64 4611686018427387904] 3)).grown hgrow (fun j hj => by have := hrow j hj; omega))
    have HO6 : Hid (w6.ownsRow (F + 1) 3 1 (.slice (some ⟨g6, 0, none⟩) (n1 + 1) cap6) (n1 + 1) ((zs ++ [infV]).map (Value.int .i64))) := Lib.hid (by rw [List.map_append]; exact hown')
    have G6 := Lib.hid (snoc_good HGD.out.1 HF1.out.1 HGD.out.2.1.1)
    obtain ⟨a10, cap10, hv10, R10, X10⟩ := rowZ_of_owns HO6.out (by omega) (fun i hi => by
      show In64 ((zs ++ [4611686018427387904]).getD i 0)
      rcases G6.out.1.val i hi with h | h
      · exact ⟨by omega, by omega⟩
      · rw [h]; exact ⟨by decide, by decide⟩)
    obtain ⟨rfl, rfl⟩ : some ⟨g6, 0, none⟩ = a10 ∧ cap6 = cap10 := by cases hv10; exact ⟨rfl, rfl⟩
    have X6 : F + 1 ≤ g6 := X10 _ rfl
    have hgF : ¬ g6 = F := by omega
    have HR10 := Lib.hid R10
    clear hown' hgrow hrow hv10 R10 X10 c0 c1 c2 f0 f1 f2
    have hz00 : atC (zs ++ [infV]) 1 0 0 = 0 := by
      have hl : 1 ≤ zs.length := by have := HGD.out.1.p1; have := HGD.out.1.p3; omega
      rw [atC_lt (by simp), getD_snoc, if_pos (by omega)]
      exact HF1.out.2
    have HZ := Lib.hid hz00
    have SN8 := Lib.hid (snoc_nice HGD.out.1 HF1.out.1 HGD.out.2)
    clear hz00
    obtain ⟨c0, c1, c2, f0, f1, f2⟩ := KF6.out
    obtain ⟨d0, d1, d2, e0, e1, e2⟩ := KR6.out
    have hne : ¬ w.heap.size = F := by omega
    go_wp2_with fail
    obtain ⟨d0', d1', d2', e0', e1', e2'⟩ := ((KR6.out.other hne 0 (.slice (some ⟨g6, 0, none⟩) (n1 + 1) cap6)).other hne 1 (.int .i64 1)).other hne 2 (.int .i64 0)
    exact bodyPost_ret (v := curV (some ⟨g6, 0, none⟩) (n1 + 1) cap6 (1 : Nat) 0) (by simp [results, Try.results44, go_sem, d0', d1', d2']) rfl
      (second_post (p := 1) (((HD6.out.set hbl (p := ⟨F, 0, none⟩) (Nat.le_of_lt hF1) _).set hbl (p := ⟨F, 1, none⟩) (Nat.le_of_lt hF1) _).set hbl (p := ⟨F, 2, none⟩) (Nat.le_of_lt hF1) _) HS.out hbl
        (((HR10.out.store (fun x h _ => by cases h; exact hgF) _ _).store (fun x h _ => by cases h; exact hgF) _ _).store (fun x h _ => by cases h; exact hgF) _ _) (fun x hx => by cases hx; show w.heap.size < g6; omega) G6.out.1 HZ.out SN8.out)
  · have h0' : (r == 0) = false := by simpa using h0
    clear h0
    have hz00 : atC zs p inc 0 = 0 := by
      rw [atC_lt (by have := Z2.out.good.p1; have := Z2.out.good.p3; omega)]
      exact HF1.out.2
    have HZ := Lib.hid hz00
    have SN8 := Lib.hid (zero_nice Z2.out.good HF1.out.1 Z2.out.sm)
    clear hz00
    obtain ⟨c0, c1, c2, f0, f1, f2⟩ := Z2.out.bf
    obtain ⟨d0, d1, d2, g0, g1, g2⟩ := Z2.out.br
    go_wp2_with fail
    exact bodyPost_ret (v := curV a1 n1 cap1 p inc) (by simp [results, Try.results44, go_sem, d0, d1, d2, g0, g1, g2]) rfl
      (second_post Z2.out.held HS.out hbl Z2.out.row (fun x hx => (Z2.out.far x hx).1) Z2.out.good HZ.out SN8.out)

set_option maxRecDepth 100000 in
set_option maxHeartbeats 6400000 in
theorem awake8 (w : World) : Calls Try.prog 43 #[] w (Says (.bool true) w) := by
  obtain ⟨y1, q1, j1, y2, q2, j2, hn1, hn2, hLL, hd, he⟩ := dec_of f8_good g8_good rfl (lcm_one f8_good g8_good) (by omega)
  obtain ⟨x1, r1, k1, x2, r2, k2, hm1, hm2, hMM, hdm, _⟩ := dec_of f8_good f8_good rfl (lcm_one f8_good f8_good) (by omega)
  obtain ⟨rfl, rfl, rfl⟩ := hm1.canon f8_good f8_good hm2 (fun _ => rfl)
  have HN := Lib.hid (And.intro (And.intro hn1 hn2) (And.intro hLL (And.intro hd he)))
  have HM := Lib.hid (And.intro (And.intro hm1 hm2) (And.intro hMM hdm))
  clear hn1 hn2 hLL hd he hm1 hm2 hMM hdm
  obtain ⟨w0, hw0⟩ : ∃ W, (((w.alloc (.cells #[.int .i64 0, .int .i64 10, .int .i64 12] 3)).alloc (.cells #[.slice (some ⟨w.heap.size, 0, none⟩) 3 3, .int .i64 1, .int .i64 2] 24)).alloc (.cells #[.int .i64 0, .int .i64 0, .int .i64 0, .int .i64 0] 3)).alloc (.cells #[.slice (some ⟨w.heap.size + 1 + 1, 0, none⟩) 4 4, .int .i64 1, .int .i64 4] 24) = W := ⟨_, rfl⟩
  have s1 : (w.alloc (.cells #[.int .i64 0, .int .i64 10, .int .i64 12] 3)).heap.size = w.heap.size + 1 := by simp
  have s2 : ((w.alloc (.cells #[.int .i64 0, .int .i64 10, .int .i64 12] 3)).alloc (.cells #[.slice (some ⟨w.heap.size, 0, none⟩) 3 3, .int .i64 1, .int .i64 2] 24)).heap.size = w.heap.size + 1 + 1 := by simp
  have s3 : (((w.alloc (.cells #[.int .i64 0, .int .i64 10, .int .i64 12] 3)).alloc (.cells #[.slice (some ⟨w.heap.size, 0, none⟩) 3 3, .int .i64 1, .int .i64 2] 24)).alloc (.cells #[.int .i64 0, .int .i64 0, .int .i64 0, .int .i64 0] 3)).heap.size = w.heap.size + 1 + 1 + 1 := by simp
  have l1 : Bx w0 (w.heap.size + 1) (some ⟨w.heap.size, 0, none⟩) 3 3 1 2 [0, 10, 12] := by
    rw [← hw0]
    have h1 := Cur3.new (w.alloc (.cells #[.int .i64 0, .int .i64 10, .int .i64 12] 3)) (.slice (some ⟨w.heap.size, 0, none⟩) 3 3) (.int .i64 1) (.int .i64 2) 24
    rw [s1] at h1
    have h2 := rowZ_lit w [0, 10, 12] 3 (by decide) (by decide)
    exact ⟨(h1.alloc _).alloc _, ((h2.alloc _).alloc _).alloc _⟩
  have l2 : Bx w0 (w.heap.size + 1 + 1 + 1) (some ⟨w.heap.size + 1 + 1, 0, none⟩) 4 4 1 4 [0, 0, 0, 0] := by
    rw [← hw0]
    have h1 := Cur3.new (((w.alloc (.cells #[.int .i64 0, .int .i64 10, .int .i64 12] 3)).alloc (.cells #[.slice (some ⟨w.heap.size, 0, none⟩) 3 3, .int .i64 1, .int .i64 2] 24)).alloc (.cells #[.int .i64 0, .int .i64 0, .int .i64 0, .int .i64 0] 3)) (.slice (some ⟨w.heap.size + 1 + 1, 0, none⟩) 4 4) (.int .i64 1) (.int .i64 4) 24
    rw [s3] at h1
    have h2 := rowZ_lit ((w.alloc (.cells #[.int .i64 0, .int .i64 10, .int .i64 12] 3)).alloc (.cells #[.slice (some ⟨w.heap.size, 0, none⟩) 3 3, .int .i64 1, .int .i64 2] 24)) [0, 0, 0, 0] 3 (by decide) (by decide)
    rw [s2] at h2
    exact ⟨h1, h2.alloc _⟩
  have l3 : Below w.heap.size w w0 := by rw [← hw0]; exact ((((Below.refl _ _).alloc (Nat.le_refl _) _).alloc (by simp) _).alloc (by simp; omega) _).alloc (by simp; omega) _
  have Xf := Lib.hid l1
  have Xg := Lib.hid l2
  have HB := Lib.hid l3
  have HW0 := Lib.hid hw0
  clear l1 l2 l3 s1 s2 s3 hw0
  go_enter Try.func43, Try.ntmps43
  go_upto_region 3 with fail
  try rw [HW0.out]
  obtain ⟨c0, c1, c2, c3, c4, c5⟩ := Xf.out.box
  obtain ⟨d0, d1, d2, d3, d4, d5⟩ := Xg.out.box
  go_wp2_with fail
  clear c0 c1 c2 c3 c4 c5 d0 d1 d2 d3 d4 d5
  refine ((dof_ok (some ⟨w.heap.size, 0, none⟩) 3 3 [0, 10, 12] 1 2 f8_good (some ⟨w.heap.size + 1 + 1, 0, none⟩) 4 4 [0, 0, 0, 0] 1 4 g8_good rfl 1 (lcm_one f8_good g8_good) (by omega) _ Xf.out.row Xg.out.row).mono fun _ _ h => h.ok ex_can8).mono ?_
  rintro e v1 ⟨a1, n1, cap1, z1, p1, i1, rfl, hb, hr, hf, hx⟩
  obtain ⟨w1, hw⟩ : ∃ W, v1.alloc (.cells #[.slice a1 n1 cap1, .int .i64 p1, .int .i64 i1] 24) = W := ⟨_, rfl⟩
  have hz : Below w0.heap.size w0 w1 := by rw [← hw]; exact hb.trans ((below_box _).mono hb.size)
  have Xf_1 := Lib.hid (Xf.out.under hz)
  have Xg_1 := Lib.hid (Xg.out.under hz)
  have HB_1 := Lib.hid (HB.out.trans (hz.mono HB.out.size))
  have Xh_1 := Lib.hid (show Bx w1 v1.heap.size a1 n1 cap1 p1 i1 z1 by rw [← hw]; exact Bx.new hr)
  have HFh := Lib.hid (show EForm z1 p1 i1 (eC [14] 1 2) from ex_dec ▸ hf)
  have HW1 := Lib.hid hw
  clear hb hr hf hx hz hw Xf Xg HB HW0
  go_upto_region 4 with fail
  try rw [HW1.out]
  obtain ⟨c0, c1, c2, c3, c4, c5⟩ := Xf_1.out.box
  obtain ⟨d0, d1, d2, d3, d4, d5⟩ := Xg_1.out.box
  go_wp2_with fail
  clear c0 c1 c2 c3 c4 c5 d0 d1 d2 d3 d4 d5
  refine (dprove_ok (some ⟨w.heap.size, 0, none⟩) 3 3 [0, 10, 12] 1 2 f8_good (some ⟨w.heap.size + 1 + 1, 0, none⟩) 4 4 [0, 0, 0, 0] 1 4 g8_good HN.out.1.1 HN.out.1.2 1 HN.out.2.1 HN.out.2.2.1 _ Xf_1.out.row Xg_1.out.row).mono ?_
  rintro e v2 (⟨a, n, cap, hs, r, knc, at1, m, mc, ts, rfl, hb, hr, hra, hf, ht1, ht2, _, _⟩ | ⟨_, _, hno⟩)
  rotate_left
  · exact absurd ex_can8 (by rw [HN.out.2.2.2] at hno; exact hno)
  obtain ⟨w2, hw⟩ : ∃ W, v2.alloc (.cells #[.slice a n cap, .int .i64 r, .int .i64 knc, .slice at1 m mc] 57) = W := ⟨_, rfl⟩
  have hz2 : Below v2.heap.size v2 w2 := by rw [← hw]; exact below_box _
  have hz : Below w1.heap.size w1 w2 := hb.trans (hz2.mono hb.size)
  have Xf_2 := Lib.hid (Xf_1.out.under hz)
  have Xg_2 := Lib.hid (Xg_1.out.under hz)
  have Xh_2 := Lib.hid (Xh_1.out.under hz)
  have HB_2 := Lib.hid (HB_1.out.trans (hz.mono HB_1.out.size))
  have XC_2 := Lib.hid (show G4 w2 v2.heap.size (.slice a n cap) (.int .i64 r) (.int .i64 knc) (.slice at1 m mc) by rw [← hw]; exact g4_new v2 _ _ _ _ _)
  have RC_2 := Lib.hid (And.intro (hr.under hz2) (hra.under hz2))
  obtain ⟨s5, hs5, hns5⟩ := norm_self hf
  have HCR := Lib.hid (And.intro (And.intro hf.good hns5) (And.intro (proves_of HN.out.2.2.1 hf ht1 ht2) (show 0 < atC hs r knc 0 ∧ ¬ atC hs r knc 0 = infV by
    have e := form_at hf 0
    rw [HN.out.2.2.2, ex_dec] at e
    have e2 : encF (eC [14] 1 2) 0 = 14 := enc_eC [14] 1 2 0
    rw [e, e2]; exact ⟨by decide, by decide⟩)))
  have HW2 := Lib.hid hw
  clear hb hr hra hf ht1 ht2 hz hz2 hw hs5 hns5 Xf_1 Xg_1 Xh_1 HB_1 HW1
  obtain ⟨w3, hw⟩ : ∃ W, (w2.alloc (.cells #[.int .i64 0] 3)).alloc (.cells #[.int .i64 0] 3) = W := ⟨_, rfl⟩
  have hz : Below w2.heap.size w2 w3 := by rw [← hw]; exact (below_box _).alloc (by simp) _
  have R3 := Lib.hid (show RowZ w3 (some ⟨w2.heap.size, 0, none⟩) 1 1 [0] ∧ RowZ w3 (some ⟨w2.heap.size + 1, 0, none⟩) 1 1 [0] by
    rw [← hw]
    have h1 := rowZ_lit w2 [0] 3 (by decide) (by decide)
    have h2 := rowZ_lit (w2.alloc (.cells #[.int .i64 0] 3)) [0] 3 (by decide) (by decide)
    rw [show (w2.alloc (.cells #[.int .i64 0] 3)).heap.size = w2.heap.size + 1 by simp] at h2
    exact ⟨h1.alloc _, h2⟩)
  have HW3 := Lib.hid hw
  have HZ3 := Lib.hid hz
  clear hw hz
  go_upto_region 5 with fail
  try rw [HW2.out]
  go_wp2_with fail
  try rw [HW3.out]
  refine ((dof_ok (some ⟨w2.heap.size, 0, none⟩) 1 1 [0] 1 5 a8_good (some ⟨w2.heap.size + 1, 0, none⟩) 1 1 [0] 1 3 b8_good rfl 1 (lcm_one a8_good b8_good) (by omega) _ R3.out.1 R3.out.2).mono fun _ _ h => h.ok ex_can9).mono ?_
  rintro e v4 ⟨a4, n4, cap4, z4, p4, i4, rfl, hb, hr, hf, hx⟩
  obtain ⟨w4, hw⟩ : ∃ W, v4.alloc (.cells #[.slice a4 n4 cap4, .int .i64 p4, .int .i64 i4] 24) = W := ⟨_, rfl⟩
  have hz : Below w2.heap.size w2 w4 := by rw [← hw]; exact HZ3.out.trans ((hb.trans ((below_box _).mono hb.size)).mono HZ3.out.size)
  have Xf_4 := Lib.hid (Xf_2.out.under hz)
  have Xg_4 := Lib.hid (Xg_2.out.under hz)
  have Xh_4 := Lib.hid (Xh_2.out.under hz)
  have XC_4 := Lib.hid (XC_2.out.below hz)
  have RC_4 := Lib.hid (And.intro (RC_2.out.1.under hz) (RC_2.out.2.under hz))
  have HB_4 := Lib.hid (HB_2.out.trans (hz.mono HB_2.out.size))
  have Xx_4 := Lib.hid (show Bx w4 v4.heap.size a4 n4 cap4 p4 i4 z4 by rw [← hw]; exact Bx.new hr)
  have HFx := Lib.hid (show EForm z4 p4 i4 (fun _ => none) from ex_steep ▸ hf)
  have HW4 := Lib.hid hw
  clear hb hr hf hx hz hw Xf_2 Xg_2 Xh_2 XC_2 RC_2 HB_2 HW2 HW3 HZ3 R3
  obtain ⟨w5, hw⟩ : ∃ W, w4.alloc (.cells #[.int .i64 14] 3) = W := ⟨_, rfl⟩
  have hz : Below w4.heap.size w4 w5 := by rw [← hw]; exact below_box _
  have R5 := Lib.hid (show RowZ w5 (some ⟨w4.heap.size, 0, none⟩) 1 1 [14] by rw [← hw]; exact rowZ_lit w4 [14] 3 (by decide) (by decide))
  have HW5 := Lib.hid hw
  have HZ5 := Lib.hid hz
  clear hw hz
  go_upto_region 6 with fail
  try rw [HW4.out]
  obtain ⟨c0, c1, c2, c3, c4, c5⟩ := Xh_4.out.box
  go_wp2_with fail
  clear c0 c1 c2 c3 c4 c5
  try rw [HW5.out]
  refine (same_at HFh.out ex_form _ (Xh_4.out.under HZ5.out).row R5.out).mono ?_
  rintro e w6 ⟨rfl, hb⟩
  have hz : Below w4.heap.size w4 w6 := HZ5.out.trans (hb.mono HZ5.out.size)
  have Xf_6 := Lib.hid (Xf_4.out.under hz)
  have Xg_6 := Lib.hid (Xg_4.out.under hz)
  have XC_6 := Lib.hid (XC_4.out.below hz)
  have RC_6 := Lib.hid (And.intro (RC_4.out.1.under hz) (RC_4.out.2.under hz))
  have HB_6 := Lib.hid (HB_4.out.trans (hz.mono HB_4.out.size))
  have Xx_6 := Lib.hid (Xx_4.out.under hz)
  clear hb hz Xf_4 Xg_4 Xh_4 XC_4 RC_4 HB_4 HW4 HW5 HZ5 R5 Xx_4
  obtain ⟨c0, c1, c2, c3, c4, c5⟩ := Xf_6.out.box
  obtain ⟨d0, d1, d2, d3, d4, d5⟩ := Xg_6.out.box
  obtain ⟨⟨k0, k1', k2', k3, k4, k5⟩, k6, k7⟩ := XC_6.out
  go_wp2_with fail
  clear c0 c1 c2 c3 c4 c5 d0 d1 d2 d3 d4 d5 k0 k1' k2' k3 k4 k5 k6 k7
  refine (dcheck_ok (some ⟨w.heap.size, 0, none⟩) 3 3 [0, 10, 12] 1 2 f8_good (some ⟨w.heap.size + 1 + 1, 0, none⟩) 4 4 [0, 0, 0, 0] 1 4 g8_good HN.out.1.1 HN.out.1.2 1 HN.out.2.1 HN.out.2.2.1 a n cap hs r knc HCR.out.1.1 HCR.out.1.2 at1 m mc ts true ⟨fun _ => HCR.out.2.1, fun _ => rfl⟩ _ Xf_6.out.row Xg_6.out.row RC_6.out.1 RC_6.out.2).mono ?_
  rintro e w7 ⟨rfl, hb⟩
  have Xf_7 := Lib.hid (Xf_6.out.under hb)
  have XC_7 := Lib.hid (XC_6.out.below hb)
  have RC_7 := Lib.hid (And.intro (RC_6.out.1.under hb) (RC_6.out.2.under hb))
  have HB_7 := Lib.hid (HB_6.out.trans (hb.mono HB_6.out.size))
  have Xx_7 := Lib.hid (Xx_6.out.under hb)
  clear hb Xf_6 Xg_6 XC_6 RC_6 HB_6 Xx_6
  obtain ⟨w8, hw⟩ : ∃ W, w7.alloc (.cells #[.int .i64 4611686018427387904] 3) = W := ⟨_, rfl⟩
  have hz : Below w7.heap.size w7 w8 := by rw [← hw]; exact below_box _
  have R8 := Lib.hid (show RowZ w8 (some ⟨w7.heap.size, 0, none⟩) 1 1 [4611686018427387904] by rw [← hw]; exact rowZ_lit w7 [4611686018427387904] 3 (by decide) (by decide))
  have HW8 := Lib.hid hw
  have HZ8 := Lib.hid hz
  clear hw hz
  obtain ⟨c0, c1, c2, c3, c4, c5⟩ := Xx_7.out.box
  go_wp2_with fail
  clear c0 c1 c2 c3 c4 c5
  try rw [HW8.out]
  refine (same_at HFx.out inf_form _ (Xx_7.out.under HZ8.out).row R8.out).mono ?_
  rintro e w9 ⟨rfl, hb⟩
  have hz : Below w7.heap.size w7 w9 := HZ8.out.trans (hb.mono HZ8.out.size)
  have Xf_9 := Lib.hid (Xf_7.out.under hz)
  have XC_9 := Lib.hid (XC_7.out.below hz)
  have RC_9 := Lib.hid (And.intro (RC_7.out.1.under hz) (RC_7.out.2.under hz))
  have HB_9 := Lib.hid (HB_7.out.trans (hz.mono HB_7.out.size))
  clear hb hz Xf_7 XC_7 RC_7 HB_7 Xx_7 HW8 HZ8 R8
  obtain ⟨c0, c1, c2, c3, c4, c5⟩ := Xf_9.out.box
  obtain ⟨⟨k0, k1', k2', k3, k4, k5⟩, k6, k7⟩ := XC_9.out
  go_wp2_with fail
  clear c0 c1 c2 c3 c4 c5 k0 k1' k2' k3 k4 k5 k6 k7
  refine (dcheck_ok (some ⟨w.heap.size, 0, none⟩) 3 3 [0, 10, 12] 1 2 f8_good (some ⟨w.heap.size, 0, none⟩) 3 3 [0, 10, 12] 1 2 f8_good HM.out.1.1 HM.out.1.2 1 HM.out.2.1 HM.out.2.2 a n cap hs r knc HCR.out.1.1 HCR.out.1.2 at1 m mc ts false ⟨fun h => (by cases h), fun h => absurd h (proves_self HM.out.2.2 HCR.out.2.2.1 HCR.out.2.2.2)⟩ _ Xf_9.out.row Xf_9.out.row RC_9.out.1 RC_9.out.2).mono ?_
  rintro e w10 ⟨rfl, hb⟩
  have HB_10 := Lib.hid (HB_9.out.trans (hb.mono HB_9.out.size))
  clear hb
  go_wp2_with fail
  go_ret
  exact ⟨rfl, HB_10.out⟩


end Go.Proofs.Ytcbocglakielnaa
