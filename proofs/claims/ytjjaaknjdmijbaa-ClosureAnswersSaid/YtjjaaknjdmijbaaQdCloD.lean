/- The pair of a curve and of one that may be its closure. By the verifier's side. -/
import Derived.Test.YtjjaaknjdmijbaaQdCloC
import Derived.Test.YtjjaaknjdmijbaaQdMathNumCurT
import Derived.Test.YtjjaaknjdmijbaaQdPwEToRowF
namespace Go.Proofs.Ytjjaaknjdmijbaa
open Go.RowKit
set_option linter.unusedSimpArgs false
set_option linter.unusedVariables false

theorem coprime_same {a1 b1 a2 b2 : Nat} (h1 : Nat.Coprime a1 b1) (h2 : Nat.Coprime a2 b2) (hb : 1 ≤ b1) (h : a1 * b2 = a2 * b1) : a1 = a2 ∧ b1 = b2 := by
  have d1 : b1 ∣ b2 := h1.symm.dvd_of_dvd_mul_left (by rw [h]; exact Nat.dvd_mul_left _ _)
  have d2 : b2 ∣ b1 := h2.symm.dvd_of_dvd_mul_left (by rw [← h]; exact Nat.dvd_mul_left _ _)
  have e := Nat.dvd_antisymm d1 d2
  subst e
  exact ⟨Nat.eq_of_mul_eq_mul_right (by omega) h, rfl⟩
theorem newF_nat {i p : Nat} (hp : 1 ≤ p) {x y : Int} (h : newF (i : Int) (p : Int) = (x, y, 0)) : x = ((i / Nat.gcd i p : Nat) : Int) ∧ y = ((p / Nat.gcd i p : Nat) : Int) := by
  unfold newF at h
  rw [if_neg (by omega)] at h
  split at h
  · simp at h
  · have d1 : decide ((i : Int) < 0) = false := decide_eq_false (by omega)
    have d2 : decide ((p : Int) < 0) = false := decide_eq_false (by omega)
    rw [d1, d2, if_pos rfl] at h
    simp only [Int.natAbs_natCast, Prod.mk.injEq] at h
    exact ⟨h.1.symm, h.2.1.symm⟩
/-- Two slopes are the same. -/
theorem slope_same {i1 i2 : Int} {p1 p2 : Nat} (h1 : 1 ≤ p1) (h2 : 1 ≤ p2) (k1 : 0 ≤ i1) (k2 : 0 ≤ i2) {x1 y1 x2 y2 : Int} (e1 : newF i1 p1 = (x1, y1, 0)) (e2 : newF i2 p2 = (x2, y2, 0)) : (x1 = x2 ∧ y1 = y2) ↔ i1 * (p2 : Int) = i2 * (p1 : Int) := by
  obtain ⟨i, rfl⟩ := Int.eq_ofNat_of_zero_le k1
  obtain ⟨j, rfl⟩ := Int.eq_ofNat_of_zero_le k2
  obtain ⟨a1, b1⟩ := newF_nat h1 e1
  obtain ⟨a2, b2⟩ := newF_nat h2 e2
  have g1 := Nat.gcd_pos_of_pos_right i (show 0 < p1 by omega)
  have g2 := Nat.gcd_pos_of_pos_right j (show 0 < p2 by omega)
  have c1 := Nat.coprime_div_gcd_div_gcd g1
  have c2 := Nat.coprime_div_gcd_div_gcd g2
  have d1 := Nat.div_mul_cancel (Nat.gcd_dvd_left i p1)
  have d2 := Nat.div_mul_cancel (Nat.gcd_dvd_right i p1)
  have d3 := Nat.div_mul_cancel (Nat.gcd_dvd_left j p2)
  have d4 := Nat.div_mul_cancel (Nat.gcd_dvd_right j p2)
  generalize i / Nat.gcd i p1 = A1 at *
  generalize p1 / Nat.gcd i p1 = B1 at *
  generalize j / Nat.gcd j p2 = A2 at *
  generalize p2 / Nat.gcd j p2 = B2 at *
  generalize Nat.gcd i p1 = G1 at *
  generalize Nat.gcd j p2 = G2 at *
  subst a1 b1 a2 b2
  have hn : i * p2 = j * p1 ↔ A1 * B2 = A2 * B1 := by
    rw [← d1, ← d2, ← d3, ← d4]
    have x1 : A1 * G1 * (B2 * G2) = A1 * B2 * (G1 * G2) := by rw [Nat.mul_assoc, Nat.mul_assoc, ← Nat.mul_assoc G1, Nat.mul_comm G1 B2, Nat.mul_assoc B2]
    have x2 : A2 * G2 * (B1 * G1) = A2 * B1 * (G1 * G2) := by rw [Nat.mul_assoc, Nat.mul_assoc, ← Nat.mul_assoc G2, Nat.mul_comm G2 B1, Nat.mul_assoc B1, Nat.mul_comm G2 G1]
    rw [x1, x2]
    exact ⟨fun h => Nat.eq_of_mul_eq_mul_right (Nat.mul_pos g1 g2) h, fun h => by rw [h]⟩
  rw [← Int.natCast_mul, ← Int.natCast_mul]
  constructor
  · rintro ⟨e1, e2⟩
    have e3 : A1 = A2 := by omega
    have e4 : B1 = B2 := by omega
    rw [hn.2 (by rw [e3, e4])]
  · intro h
    have h3 : i * p2 = j * p1 := by exact_mod_cast h
    have hB : 1 ≤ B1 := by
      rcases Nat.eq_zero_or_pos B1 with h0 | h0
      · rw [h0, Nat.zero_mul] at d2; omega
      · exact h0
    obtain ⟨e1, e2⟩ := coprime_same c1 c2 hB (hn.1 h3)
    exact ⟨by rw [e1], by rw [e2]⟩

/-- Block p holds a fraction. -/
structure FBox (w : World) (p : Nat) (x d : Int) : Prop where
  c0 : w.cell? ⟨p, 0, none⟩ = some (.int .i64 x)
  c1 : w.cell? ⟨p, 1, none⟩ = some (.int .i64 d)
theorem FBox.below {w w' : World} {p : Nat} {x d : Int} (h : FBox w p x d) (hb : Below w.heap.size w w') : FBox w' p x d :=
  ⟨(hb.cell (lt_of_cell h.c0)).trans h.c0, (hb.cell (lt_of_cell h.c1)).trans h.c1⟩
theorem FBox.new (w : World) (x d : Int) (t : TypeId) : FBox (w.alloc (.cells #[.int .i64 x, .int .i64 d] t)) w.heap.size x d := ⟨by go_simp, by go_simp⟩
theorem qbox_below (w : World) (o : Obj) : Below w.heap.size w (w.alloc o) := (Below.refl _ _).alloc (Nat.le_refl _) _

/-- What paired hands back. -/
def GivesQ (ys : List Int) (q : Nat) (jnc : Int) (hs : List Int) (r : Nat) (knc : Int) (w : World) (e : Ending) (w' : World) : Prop :=
  ∃ P : QV, e = .returned (cpV P) ∧ Below w.heap.size w w' ∧ QIs P ys hs ∧ QIn P ys hs w' ∧ P.q = q ∧ P.j = jnc ∧ P.r = r ∧ P.k = knc

/-- While the pair is made: the boxes. -/
structure QB (w : World) (a1 : Option Addr) (n1 cap1 : Nat) (ys : List Int) (q : Nat) (jnc : Int) (a2 : Option Addr) (n2 cap2 : Nat) (hs : List Int) (r : Nat) (knc : Int) (u : World) : Prop where
  bf : Cur3 u w.heap.size (.slice a1 n1 cap1) (.int .i64 q) (.int .i64 jnc)
  bh : Cur3 u (w.heap.size + 1) (.slice a2 n2 cap2) (.int .i64 r) (.int .i64 knc)
  res : P6 u (w.heap.size + 2) .nilFunc .nilFunc (.int .i64 0) (.int .i64 0) (.int .i64 0) (.bool false)
  r1 : RowZ u a1 n1 cap1 ys
  r2 : RowZ u a2 n2 cap2 hs
  below : Below w.heap.size w u
  sz : w.heap.size + 2 < u.heap.size
theorem QB.call {w u v : World} {a1 : Option Addr} {n1 cap1 : Nat} {ys : List Int} {q : Nat} {jnc : Int} {a2 : Option Addr} {n2 cap2 : Nat} {hs : List Int} {r : Nat} {knc : Int} (h : QB w a1 n1 cap1 ys q jnc a2 n2 cap2 hs r knc u) (hb : Below u.heap.size u v) : QB w a1 n1 cap1 ys q jnc a2 n2 cap2 hs r knc v :=
  ⟨h.bf.below hb, h.bh.below hb, h.res.below hb, h.r1.under hb, h.r2.under hb, h.below.trans (hb.mono h.below.size), Nat.lt_of_lt_of_le h.sz hb.size⟩
theorem qb_start {w u : World} {a1 : Option Addr} {n1 cap1 : Nat} {ys : List Int} {q : Nat} {jnc : Int} {a2 : Option Addr} {n2 cap2 : Nat} {hs : List Int} {r : Nat} {knc : Int} (h1 : RowZ w a1 n1 cap1 ys) (h2 : RowZ w a2 n2 cap2 hs) (hW : ((w.alloc (.cells #[.slice a1 n1 cap1, .int .i64 q, .int .i64 jnc] 24)).alloc (.cells #[.slice a2 n2 cap2, .int .i64 r, .int .i64 knc] 24)).alloc (.cells #[.nilFunc, .nilFunc, .int .i64 0, .int .i64 0, .int .i64 0, .bool false] 122) = u) : QB w a1 n1 cap1 ys q jnc a2 n2 cap2 hs r knc u := by
  have hB : Below w.heap.size w (((w.alloc (.cells #[.slice a1 n1 cap1, .int .i64 q, .int .i64 jnc] 24)).alloc (.cells #[.slice a2 n2 cap2, .int .i64 r, .int .i64 knc] 24)).alloc (.cells #[.nilFunc, .nilFunc, .int .i64 0, .int .i64 0, .int .i64 0, .bool false] 122)) := (((Below.refl _ _).alloc (Nat.le_refl _) _).alloc (by simp) _).alloc (by simp; omega) _
  have h3 := p6_new ((w.alloc (.cells #[.slice a1 n1 cap1, .int .i64 q, .int .i64 jnc] 24)).alloc (.cells #[.slice a2 n2 cap2, .int .i64 r, .int .i64 knc] 24)) .nilFunc .nilFunc (.int .i64 0) (.int .i64 0) (.int .i64 0) (.bool false) 122
  rw [show ((w.alloc (.cells #[.slice a1 n1 cap1, .int .i64 q, .int .i64 jnc] 24)).alloc (.cells #[.slice a2 n2 cap2, .int .i64 r, .int .i64 knc] 24)).heap.size = w.heap.size + 2 by simp] at h3
  subst hW
  exact ⟨((Cur3.new w _ _ _ _).alloc _).alloc _, (Cur3.new2 w _ _ _ _ _).alloc _, h3, h1.under hB, h2.under hB, hB, by simp⟩
theorem QB.far {w u : World} {a1 : Option Addr} {n1 cap1 : Nat} {ys : List Int} {q : Nat} {jnc : Int} {a2 : Option Addr} {n2 cap2 : Nat} {hs : List Int} {r : Nat} {knc : Int} (h : QB w a1 n1 cap1 ys q jnc a2 n2 cap2 hs r knc u) (hf1 : ∀ x, a1 = some x → 1 ≤ n1 → x.block < w.heap.size) (hf2 : ∀ x, a2 = some x → 1 ≤ n2 → x.block < w.heap.size) {b : Nat} (hb : w.heap.size + 2 < b) (i : Nat) (v : Value) : QB w a1 n1 cap1 ys q jnc a2 n2 cap2 hs r knc (u.setCell ⟨b, i, none⟩ v) :=
  ⟨h.bf.other (by omega) _ _, h.bh.other (by omega) _ _, h.res.other (by omega) _ _, h.r1.store (fun x hx hn => by have := hf1 x hx hn; omega) _ _, h.r2.store (fun x hx hn => by have := hf2 x hx hn; omega) _ _, h.below.setCell (p := ⟨b, i, none⟩) (by show w.heap.size ≤ b; omega) _, by simpa using h.sz⟩
abbrev QBS (w : World) (a1 : Option Addr) (n1 cap1 : Nat) (ys : List Int) (q : Nat) (jnc : Int) (a2 : Option Addr) (n2 cap2 : Nat) (hs : List Int) (r : Nat) (knc : Int) (u : World) : Prop :=
  u.cell? ⟨w.heap.size, 0, none⟩ = some (.slice a1 n1 cap1) ∧ u.cell? ⟨w.heap.size, 1, none⟩ = some (.int .i64 q) ∧ u.cell? ⟨w.heap.size, 2, none⟩ = some (.int .i64 jnc) ∧ u.cell? ⟨w.heap.size + 1, 0, none⟩ = some (.slice a2 n2 cap2) ∧ u.cell? ⟨w.heap.size + 1, 1, none⟩ = some (.int .i64 r) ∧ u.cell? ⟨w.heap.size + 1, 2, none⟩ = some (.int .i64 knc) ∧ Hid (QB w a1 n1 cap1 ys q jnc a2 n2 cap2 hs r knc u)
theorem qbs_of {w u : World} {a1 : Option Addr} {n1 cap1 : Nat} {ys : List Int} {q : Nat} {jnc : Int} {a2 : Option Addr} {n2 cap2 : Nat} {hs : List Int} {r : Nat} {knc : Int} (h : QB w a1 n1 cap1 ys q jnc a2 n2 cap2 hs r knc u) : QBS w a1 n1 cap1 ys q jnc a2 n2 cap2 hs r knc u := ⟨h.bf.c0, h.bf.c1, h.bf.c2, h.bh.c0, h.bh.c1, h.bh.c2, h⟩

/-- The pair stands, too. -/
structure QC (w : World) (a1 : Option Addr) (n1 cap1 : Nat) (ys : List Int) (q : Nat) (jnc : Int) (a2 : Option Addr) (n2 cap2 : Nat) (hs : List Int) (r : Nat) (knc : Int) (pb A B : Nat) (z2 z3 z4 z5 : Value) (u : World) : Prop where
  b : QB w a1 n1 cap1 ys q jnc a2 n2 cap2 hs r knc u
  pr : P6 u pb (closPV A) (closPV B) z2 z3 z4 z5
  c1 : ClosP u A a1 n1 cap1 ys q jnc
  c2 : ClosP u B a2 n2 cap2 hs r knc
  m1 : ¬ A = pb
  m2 : ¬ A + 1 = pb
  m3 : ¬ B = pb
  m4 : ¬ B + 1 = pb
  lp : w.heap.size + 2 < pb
  la : w.heap.size + 2 < A
  lb : w.heap.size + 2 < B
  x1 : ∀ x, a1 = some x → 1 ≤ n1 → x.block < w.heap.size
  x2 : ∀ x, a2 = some x → 1 ≤ n2 → x.block < w.heap.size
section
variable {w u v : World} {a1 : Option Addr} {n1 cap1 : Nat} {ys : List Int} {q : Nat} {jnc : Int} {a2 : Option Addr} {n2 cap2 : Nat} {hs : List Int} {r : Nat} {knc : Int} {pb A B : Nat} {z2 z3 z4 z5 z : Value}
theorem QC.call (h : QC w a1 n1 cap1 ys q jnc a2 n2 cap2 hs r knc pb A B z2 z3 z4 z5 u) (hb : Below u.heap.size u v) : QC w a1 n1 cap1 ys q jnc a2 n2 cap2 hs r knc pb A B z2 z3 z4 z5 v :=
  ⟨h.b.call hb, h.pr.below hb, h.c1.under hb, h.c2.under hb, h.m1, h.m2, h.m3, h.m4, h.lp, h.la, h.lb, h.x1, h.x2⟩
theorem QC.set3 (h : QC w a1 n1 cap1 ys q jnc a2 n2 cap2 hs r knc pb A B z2 z3 z4 z5 u) (z : Value) : QC w a1 n1 cap1 ys q jnc a2 n2 cap2 hs r knc pb A B z2 z z4 z5 (u.setCell ⟨pb, 3, none⟩ z) :=
  ⟨h.b.far h.x1 h.x2 h.lp _ _, h.pr.set3 z, h.c1.other ⟨h.m1, h.m2, fun x hx hn => by have := h.x1 x hx hn; have := h.lp; omega⟩ _ _, h.c2.other ⟨h.m3, h.m4, fun x hx hn => by have := h.x2 x hx hn; have := h.lp; omega⟩ _ _, h.m1, h.m2, h.m3, h.m4, h.lp, h.la, h.lb, h.x1, h.x2⟩
theorem QC.set4 (h : QC w a1 n1 cap1 ys q jnc a2 n2 cap2 hs r knc pb A B z2 z3 z4 z5 u) (z : Value) : QC w a1 n1 cap1 ys q jnc a2 n2 cap2 hs r knc pb A B z2 z3 z z5 (u.setCell ⟨pb, 4, none⟩ z) :=
  ⟨h.b.far h.x1 h.x2 h.lp _ _, h.pr.set4 z, h.c1.other ⟨h.m1, h.m2, fun x hx hn => by have := h.x1 x hx hn; have := h.lp; omega⟩ _ _, h.c2.other ⟨h.m3, h.m4, fun x hx hn => by have := h.x2 x hx hn; have := h.lp; omega⟩ _ _, h.m1, h.m2, h.m3, h.m4, h.lp, h.la, h.lb, h.x1, h.x2⟩
theorem QC.set5 (h : QC w a1 n1 cap1 ys q jnc a2 n2 cap2 hs r knc pb A B z2 z3 z4 z5 u) (z : Value) : QC w a1 n1 cap1 ys q jnc a2 n2 cap2 hs r knc pb A B z2 z3 z4 z (u.setCell ⟨pb, 5, none⟩ z) :=
  ⟨h.b.far h.x1 h.x2 h.lp _ _, h.pr.set5 z, h.c1.other ⟨h.m1, h.m2, fun x hx hn => by have := h.x1 x hx hn; have := h.lp; omega⟩ _ _, h.c2.other ⟨h.m3, h.m4, fun x hx hn => by have := h.x2 x hx hn; have := h.lp; omega⟩ _ _, h.m1, h.m2, h.m3, h.m4, h.lp, h.la, h.lb, h.x1, h.x2⟩
theorem qc_put {y0 y1 y2 y3 y4 y5 : Value} (b : QB w a1 n1 cap1 ys q jnc a2 n2 cap2 hs r knc u) (pr : P6 u pb y0 y1 y2 y3 y4 y5) (c1 : ClosP u A a1 n1 cap1 ys q jnc) (c2 : ClosP u B a2 n2 cap2 hs r knc) (m1 : ¬ A = pb) (m2 : ¬ A + 1 = pb) (m3 : ¬ B = pb) (m4 : ¬ B + 1 = pb) (lp : w.heap.size + 2 < pb) (la : w.heap.size + 2 < A) (lb : w.heap.size + 2 < B)
    (x1 : ∀ x, a1 = some x → 1 ≤ n1 → x.block < w.heap.size) (x2 : ∀ x, a2 = some x → 1 ≤ n2 → x.block < w.heap.size) (z2 z3 z4 z5 : Value) :
    QC w a1 n1 cap1 ys q jnc a2 n2 cap2 hs r knc pb A B z2 z3 z4 z5 ((((((u.setCell ⟨pb, 0, none⟩ (closPV A)).setCell ⟨pb, 1, none⟩ (closPV B)).setCell ⟨pb, 2, none⟩ z2).setCell ⟨pb, 3, none⟩ z3).setCell ⟨pb, 4, none⟩ z4).setCell ⟨pb, 5, none⟩ z5) := by
  have fA : Far A a1 n1 pb := ⟨m1, m2, fun x hx hn => by have := x1 x hx hn; omega⟩
  have fB : Far B a2 n2 pb := ⟨m3, m4, fun x hx hn => by have := x2 x hx hn; omega⟩
  exact ⟨(((((b.far x1 x2 lp _ _).far x1 x2 lp _ _).far x1 x2 lp _ _).far x1 x2 lp _ _).far x1 x2 lp _ _).far x1 x2 lp _ _, pr.set6 _ _ _ _ _ _,
    (((((c1.other fA _ _).other fA _ _).other fA _ _).other fA _ _).other fA _ _).other fA _ _, (((((c2.other fB _ _).other fB _ _).other fB _ _).other fB _ _).other fB _ _).other fB _ _, m1, m2, m3, m4, lp, la, lb, x1, x2⟩
theorem QC.fin (h : QC w a1 n1 cap1 ys q jnc a2 n2 cap2 hs r knc pb A B z2 z3 z4 z5 u) (y0 y1 y2 y3 y4 y5 : Value) (o : Obj) {W : World} (hW : (((((((u.setCell ⟨w.heap.size + 1 + 1, 0, none⟩ y0).setCell ⟨w.heap.size + 1 + 1, 1, none⟩ y1).setCell ⟨w.heap.size + 1 + 1, 2, none⟩ y2).setCell ⟨w.heap.size + 1 + 1, 3, none⟩ y3).setCell ⟨w.heap.size + 1 + 1, 4, none⟩ y4).setCell ⟨w.heap.size + 1 + 1, 5, none⟩ y5).alloc o) = W) :
    Below w.heap.size w W ∧ ClosP W A a1 n1 cap1 ys q jnc ∧ ClosP W B a2 n2 cap2 hs r knc ∧ P6 W (w.heap.size + 1 + 1) y0 y1 y2 y3 y4 y5 := by
  subst hW
  have la := h.la
  have lb := h.lb
  have fA : Far A a1 n1 (w.heap.size + 1 + 1) := ⟨by omega, by omega, fun x hx hn => by have := h.x1 x hx hn; omega⟩
  have fB : Far B a2 n2 (w.heap.size + 1 + 1) := ⟨by omega, by omega, fun x hx hn => by have := h.x2 x hx hn; omega⟩
  have e : ∀ i, w.heap.size ≤ (⟨w.heap.size + 1 + 1, i, none⟩ : Addr).block := fun i => by show w.heap.size ≤ w.heap.size + 1 + 1; omega
  have hb := (((((h.b.below.setCell (e 0) y0).setCell (e 1) y1).setCell (e 2) y2).setCell (e 3) y3).setCell (e 4) y4).setCell (e 5) y5
  exact ⟨hb.trans ((qbox_below _ o).mono hb.size), ((((((h.c1.other fA _ _).other fA _ _).other fA _ _).other fA _ _).other fA _ _).other fA _ _).under (qbox_below _ o), ((((((h.c2.other fB _ _).other fB _ _).other fB _ _).other fB _ _).other fB _ _).other fB _ _).under (qbox_below _ o), (show P6 _ (w.heap.size + 1 + 1) _ _ _ _ _ _ from h.b.res.set6 y0 y1 y2 y3 y4 y5).below (qbox_below _ o)⟩
abbrev QCS (w : World) (a1 : Option Addr) (n1 cap1 : Nat) (ys : List Int) (q : Nat) (jnc : Int) (a2 : Option Addr) (n2 cap2 : Nat) (hs : List Int) (r : Nat) (knc : Int) (pb A B : Nat) (z2 z3 z4 z5 : Value) (u : World) : Prop :=
  u.cell? ⟨w.heap.size, 0, none⟩ = some (.slice a1 n1 cap1) ∧ u.cell? ⟨w.heap.size, 1, none⟩ = some (.int .i64 q) ∧ u.cell? ⟨w.heap.size, 2, none⟩ = some (.int .i64 jnc) ∧ u.cell? ⟨pb, 2, none⟩ = some z2 ∧ u.cell? ⟨pb, 3, none⟩ = some z3 ∧ Hid (QC w a1 n1 cap1 ys q jnc a2 n2 cap2 hs r knc pb A B z2 z3 z4 z5 u)
theorem qcs_of (h : QC w a1 n1 cap1 ys q jnc a2 n2 cap2 hs r knc pb A B z2 z3 z4 z5 u) : QCS w a1 n1 cap1 ys q jnc a2 n2 cap2 hs r knc pb A B z2 z3 z4 z5 u := ⟨h.b.bf.c0, h.b.bf.c1, h.b.bf.c2, h.pr.lo.c2, h.pr.c3, h⟩
end

set_option maxRecDepth 100000 in
set_option maxHeartbeats 6400000 in
theorem qpaired_ok (a1 : Option Addr) (n1 cap1 : Nat) (ys : List Int) (q : Nat) (jnc : Int) (a2 : Option Addr) (n2 cap2 : Nat) (hs : List Int) (r : Nat) (knc : Int) (g : Good ys q jnc) (gn : NormC ys q jnc ys q jnc) (k : Good hs r knc) (kn : NormC hs r knc hs r knc) (w : World) (h1 : RowZ w a1 n1 cap1 ys) (h2 : RowZ w a2 n2 cap2 hs) :
    Calls Try.prog 109 #[curV a1 n1 cap1 q jnc, curV a2 n2 cap2 r knc] w (GivesQ ys q jnc hs r knc w) := by
  obtain ⟨W, hW⟩ : ∃ W, ((w.alloc (.cells #[.slice a1 n1 cap1, .int .i64 q, .int .i64 jnc] 24)).alloc (.cells #[.slice a2 n2 cap2, .int .i64 r, .int .i64 knc] 24)).alloc (.cells #[.nilFunc, .nilFunc, .int .i64 0, .int .i64 0, .int .i64 0, .bool false] 122) = W := ⟨_, rfl⟩
  have T0 := Lib.hid ((qb_start h1 h2 hW).call (Below.refl _ _).drew)
  have HW := Lib.hid hW
  have X1 := Lib.hid (fun x hx hn => h1.far x hx hn)
  have X2 := Lib.hid (fun x hx hn => h2.far x hx hn)
  have HG := Lib.hid (And.intro g gn)
  have HK := Lib.hid (And.intro k kn)
  obtain ⟨S, hS⟩ : ∃ S, hs.length - r = S := ⟨_, rfl⟩
  obtain ⟨Sf, hSf⟩ : ∃ S, ys.length - q = S := ⟨_, rfl⟩
  have HS := Lib.hid (And.intro (show hs.length = S + r by have := k.p3; omega) (show ys.length = Sf + q by have := g.p3; omega))
  have bS : S ≤ 400 := by have := k.few; omega
  have bSf : Sf ≤ 400 := by have := g.few; omega
  clear h1 h2 hW g gn k kn hS hSf
  go_enter Try.func109, Try.ntmps109
  go_upto_region 1 with fail
  try rw [HW.out]
  go_cut [5] (fun s5 wx => ∃ pb A B : Nat, s5 = .pointer (some ⟨pb, 0, none⟩) ∧ Hid (QC w a1 n1 cap1 ys q jnc a2 n2 cap2 hs r knc pb A B (.int .i64 S) (.int .i64 1) (.int .i64 0) (.bool false) wx))
  case first =>
    refine wp_region_keeps (fun u => QBS w a1 n1 cap1 ys q jnc a2 n2 cap2 hs r knc u) 8 1 (by kernel_rfl) (by kernel_rfl) (qbs_of T0.out) (fun hHeld0 => ?_)
    refine wpAnyK_take (i := 0) (v := ?_) rfl (by kernel_rfl) (fun _ _ _ h => h) (Or.inl ⟨by rfl, ?_⟩) (by assumption) ?_
    rotate_left
    · (intro w hSw; (try dsimp only at hSw); go_simp; try with_reducible rfl)
    try simp only [Act.put, List.getElem_toArray, List.getElem_cons_zero, List.getElem_cons_succ, List.setIfInBounds_toArray, List.set_cons_zero, List.set_cons_succ]
    refine wpAnyK_take (i := 2) (v := ?_) rfl (by kernel_rfl) (fun _ _ _ h => h) (Or.inl ⟨by rfl, ?_⟩) (by assumption) ?_
    rotate_left
    · (intro w hSw; (try dsimp only at hSw); go_simp; try with_reducible rfl)
    try simp only [Act.put, List.getElem_toArray, List.getElem_cons_zero, List.getElem_cons_succ, List.setIfInBounds_toArray, List.set_cons_zero, List.set_cons_succ]
    refine wpAnyK_take (i := 4) (v := ?_) rfl (by kernel_rfl) (fun _ _ _ h => h) (Or.inl ⟨by rfl, ?_⟩) (by assumption) ?_
    rotate_left
    · (intro w hSw; (try dsimp only at hSw); go_simp; try with_reducible rfl)
    try simp only [Act.put, List.getElem_toArray, List.getElem_cons_zero, List.getElem_cons_succ, List.setIfInBounds_toArray, List.set_cons_zero, List.set_cons_succ]
    refine wpAnyK_two (i := 1) (j := 7) rfl rfl (by kernel_rfl) (fun K hK => ?_) (fun K hK => ?_)
    · go_simp
      with_reducible refine (pvalues_p a1 n1 cap1 ys q jnc HG.out.1 _ T0.out.r1).mono ?_
      rintro e x1 ⟨A, rfl, hb1, hlA, hmA, hcA⟩
      have N1 := Lib.hid hcA
      have L1 := Lib.hid (And.intro hlA hmA)
      clear hcA hlA hmA
      have T1 := Lib.hid (T0.out.call hb1)
      have Z1 := Lib.hid hb1.size
      refine hK.out _ _ (qbs_of T1.out) (fun hHeld1 => ?_)
      clear hK K hHeld0 hb1
      try simp only [Act.put, List.getElem_toArray, List.getElem_cons_zero, List.getElem_cons_succ, List.setIfInBounds_toArray, List.set_cons_zero, List.set_cons_succ]
      refine wpAnyK_two (i := 3) (j := 7) rfl rfl (by kernel_rfl) (fun K hK => ?_) (fun K hK => ?_)
      · go_simp
        with_reducible refine (pvalues_p a2 n2 cap2 hs r knc HK.out.1 _ T1.out.r2).mono ?_
        rintro e x2 ⟨B, rfl, hb2, hlB, hmB, hcB⟩
        have N2 := Lib.hid hcB
        have L2 := Lib.hid (And.intro hlB hmB)
        clear hcB hlB hmB
        have T2 := Lib.hid (T1.out.call hb2)
        have N1_x2 := Lib.hid (N1.out.under hb2)
        have Z2 := Lib.hid hb2.size
        refine hK.out _ _ (qbs_of T2.out) (fun hHeld2 => ?_)
        clear hK K hHeld1 hb2
        try simp only [Act.put, List.getElem_toArray, List.getElem_cons_zero, List.getElem_cons_succ, List.setIfInBounds_toArray, List.set_cons_zero, List.set_cons_succ]
        refine wpAnyK_two (i := 5) (j := 7) rfl rfl (by kernel_rfl) (fun K hK => ?_) (fun K hK => ?_)
        · go_simp
          with_reducible refine (start_i a2 n2 cap2 hs r knc HK.out.1 HK.out.2 S HS.out.1 _ T2.out.r2).mono ?_
          rintro e x3 ⟨rfl, hb3⟩
          have T3 := Lib.hid (T2.out.call hb3)
          have N1_x2_x3 := Lib.hid (N1_x2.out.under hb3)
          have N2_x3 := Lib.hid (N2.out.under hb3)
          have Z3 := Lib.hid hb3.size
          refine hK.out _ _ (qbs_of T3.out) (fun hHeld3 => ?_)
          clear hK K hHeld2 hb3
          try simp only [Act.put, List.getElem_toArray, List.getElem_cons_zero, List.getElem_cons_succ, List.setIfInBounds_toArray, List.set_cons_zero, List.set_cons_succ]
          refine wpAnyK_take (i := 6) (v := ?_) rfl (by kernel_rfl) (fun _ _ _ h => h) (Or.inl ⟨by rfl, ?_⟩) (by assumption) ?_
          rotate_left
          · (intro w hSw; (try dsimp only at hSw); go_simp; try with_reducible rfl)
          try simp only [Act.put, List.getElem_toArray, List.getElem_cons_zero, List.getElem_cons_succ, List.setIfInBounds_toArray, List.set_cons_zero, List.set_cons_succ]
          refine wpAnyK_step (i := 7) rfl (by kernel_rfl) (fun K hK => ?_)
          go_simp
          obtain ⟨x4, hv4⟩ : ∃ W', (x3.alloc (.cells #[.nilFunc, .nilFunc, .int .i64 0, .int .i64 0, .int .i64 0, .bool false] 122)) = W' := ⟨_, rfl⟩
          have hu4 := hv4
          have hb4 : Below x3.heap.size x3 x4 := by rw [← hu4]; exact (Below.refl _ _).alloc (Nat.le_refl _) _
          have N4 := Lib.hid (show P6 x4 x3.heap.size .nilFunc .nilFunc (.int .i64 0) (.int .i64 0) (.int .i64 0) (.bool false) by rw [← hu4]; exact p6_new x3 .nilFunc .nilFunc (.int .i64 0) (.int .i64 0) (.int .i64 0) (.bool false) 122)
          have L4 := Lib.hid (show w.heap.size + 2 < x3.heap.size ∧ x4.heap.size = x3.heap.size + 1 from ⟨T3.out.sz, by rw [← hu4]; simp⟩)
          rw [hv4]
          clear hu4 hv4
          have T4 := Lib.hid (T3.out.call hb4)
          have N1_x2_x3_x4 := Lib.hid (N1_x2_x3.out.under hb4)
          have N2_x3_x4 := Lib.hid (N2_x3.out.under hb4)
          have Z4 := Lib.hid hb4.size
          refine hK.out _ _ (qbs_of T4.out) (fun hHeld4 => ?_)
          clear hK K hHeld3 hb4
          try simp only [Act.put, List.getElem_toArray, List.getElem_cons_zero, List.getElem_cons_succ, List.setIfInBounds_toArray, List.set_cons_zero, List.set_cons_succ]
          refine wpAnyK_done (by kernel_rfl) ?_
          simp only [List.drop_succ_cons, List.drop_zero]
          clear hHeld4
          have Z1o := Z1.out
          have L1o := L1.out
          have Z2o := Z2.out
          have L2o := L2.out
          have Z3o := Z3.out
          have Z4o := Z4.out
          have L4o := L4.out
          have HQ := Lib.hid (qc_put T4.out N4.out N1_x2_x3_x4.out N2_x3_x4.out (by omega) (by omega) (by omega) (by omega) (by omega) (by have := T0.out.sz; simp at *; omega) (by have := T0.out.sz; simp at *; omega) X1.out X2.out (.int .i64 S) (.int .i64 1) (.int .i64 0) (.bool false))
          obtain ⟨⟨c0, c1, c2, f0, f1, f2⟩, c3, c4, c5, f3, f4, f5⟩ := N4.out
          go_wp2_with fail
          go_meet
          exact ⟨_, A, B, rfl, HQ⟩
        · go_simp
          obtain ⟨x5, hv5⟩ : ∃ W', (x2.alloc (.cells #[.nilFunc, .nilFunc, .int .i64 0, .int .i64 0, .int .i64 0, .bool false] 122)) = W' := ⟨_, rfl⟩
          have hu5 := hv5
          have hb5 : Below x2.heap.size x2 x5 := by rw [← hu5]; exact (Below.refl _ _).alloc (Nat.le_refl _) _
          have N5 := Lib.hid (show P6 x5 x2.heap.size .nilFunc .nilFunc (.int .i64 0) (.int .i64 0) (.int .i64 0) (.bool false) by rw [← hu5]; exact p6_new x2 .nilFunc .nilFunc (.int .i64 0) (.int .i64 0) (.int .i64 0) (.bool false) 122)
          have L5 := Lib.hid (show w.heap.size + 2 < x2.heap.size ∧ x5.heap.size = x2.heap.size + 1 from ⟨T2.out.sz, by rw [← hu5]; simp⟩)
          rw [hv5]
          clear hu5 hv5
          have T5 := Lib.hid (T2.out.call hb5)
          have N1_x2_x5 := Lib.hid (N1_x2.out.under hb5)
          have N2_x5 := Lib.hid (N2.out.under hb5)
          have Z5 := Lib.hid hb5.size
          refine hK.out _ _ (qbs_of T5.out) (fun hHeld5 => ?_)
          clear hK K hHeld2 hb5
          try simp only [Act.put, List.getElem_toArray, List.getElem_cons_zero, List.getElem_cons_succ, List.setIfInBounds_toArray, List.set_cons_zero, List.set_cons_succ]
          refine wpAnyK_step (i := 5) rfl (by kernel_rfl) (fun K hK => ?_)
          go_simp
          with_reducible refine (start_i a2 n2 cap2 hs r knc HK.out.1 HK.out.2 S HS.out.1 _ T5.out.r2).mono ?_
          rintro e x6 ⟨rfl, hb6⟩
          have T6 := Lib.hid (T5.out.call hb6)
          have N1_x2_x5_x6 := Lib.hid (N1_x2_x5.out.under hb6)
          have N2_x5_x6 := Lib.hid (N2_x5.out.under hb6)
          have N5_x6 := Lib.hid (N5.out.below hb6)
          have Z6 := Lib.hid hb6.size
          refine hK.out _ _ (qbs_of T6.out) (fun hHeld6 => ?_)
          clear hK K hHeld5 hb6
          try simp only [Act.put, List.getElem_toArray, List.getElem_cons_zero, List.getElem_cons_succ, List.setIfInBounds_toArray, List.set_cons_zero, List.set_cons_succ]
          refine wpAnyK_take (i := 6) (v := ?_) rfl (by kernel_rfl) (fun _ _ _ h => h) (Or.inl ⟨by rfl, ?_⟩) (by assumption) ?_
          rotate_left
          · (intro w hSw; (try dsimp only at hSw); go_simp; try with_reducible rfl)
          try simp only [Act.put, List.getElem_toArray, List.getElem_cons_zero, List.getElem_cons_succ, List.setIfInBounds_toArray, List.set_cons_zero, List.set_cons_succ]
          refine wpAnyK_done (by kernel_rfl) ?_
          simp only [List.drop_succ_cons, List.drop_zero]
          clear hHeld6
          have Z1o := Z1.out
          have L1o := L1.out
          have Z2o := Z2.out
          have L2o := L2.out
          have Z5o := Z5.out
          have L5o := L5.out
          have Z6o := Z6.out
          have HQ := Lib.hid (qc_put T6.out N5_x6.out N1_x2_x5_x6.out N2_x5_x6.out (by omega) (by omega) (by omega) (by omega) (by omega) (by have := T0.out.sz; simp at *; omega) (by have := T0.out.sz; simp at *; omega) X1.out X2.out (.int .i64 S) (.int .i64 1) (.int .i64 0) (.bool false))
          obtain ⟨⟨c0, c1, c2, f0, f1, f2⟩, c3, c4, c5, f3, f4, f5⟩ := N5_x6.out
          go_wp2_with fail
          go_meet
          exact ⟨_, A, B, rfl, HQ⟩
      · go_simp
        obtain ⟨x7, hv7⟩ : ∃ W', (x1.alloc (.cells #[.nilFunc, .nilFunc, .int .i64 0, .int .i64 0, .int .i64 0, .bool false] 122)) = W' := ⟨_, rfl⟩
        have hu7 := hv7
        have hb7 : Below x1.heap.size x1 x7 := by rw [← hu7]; exact (Below.refl _ _).alloc (Nat.le_refl _) _
        have N7 := Lib.hid (show P6 x7 x1.heap.size .nilFunc .nilFunc (.int .i64 0) (.int .i64 0) (.int .i64 0) (.bool false) by rw [← hu7]; exact p6_new x1 .nilFunc .nilFunc (.int .i64 0) (.int .i64 0) (.int .i64 0) (.bool false) 122)
        have L7 := Lib.hid (show w.heap.size + 2 < x1.heap.size ∧ x7.heap.size = x1.heap.size + 1 from ⟨T1.out.sz, by rw [← hu7]; simp⟩)
        rw [hv7]
        clear hu7 hv7
        have T7 := Lib.hid (T1.out.call hb7)
        have N1_x7 := Lib.hid (N1.out.under hb7)
        have Z7 := Lib.hid hb7.size
        refine hK.out _ _ (qbs_of T7.out) (fun hHeld7 => ?_)
        clear hK K hHeld1 hb7
        try simp only [Act.put, List.getElem_toArray, List.getElem_cons_zero, List.getElem_cons_succ, List.setIfInBounds_toArray, List.set_cons_zero, List.set_cons_succ]
        refine wpAnyK_step (i := 3) rfl (by kernel_rfl) (fun K hK => ?_)
        go_simp
        with_reducible refine (pvalues_p a2 n2 cap2 hs r knc HK.out.1 _ T7.out.r2).mono ?_
        rintro e x8 ⟨B, rfl, hb8, hlB, hmB, hcB⟩
        have N8 := Lib.hid hcB
        have L8 := Lib.hid (And.intro hlB hmB)
        clear hcB hlB hmB
        have T8 := Lib.hid (T7.out.call hb8)
        have N1_x7_x8 := Lib.hid (N1_x7.out.under hb8)
        have N7_x8 := Lib.hid (N7.out.below hb8)
        have Z8 := Lib.hid hb8.size
        refine hK.out _ _ (qbs_of T8.out) (fun hHeld8 => ?_)
        clear hK K hHeld7 hb8
        try simp only [Act.put, List.getElem_toArray, List.getElem_cons_zero, List.getElem_cons_succ, List.setIfInBounds_toArray, List.set_cons_zero, List.set_cons_succ]
        refine wpAnyK_step (i := 5) rfl (by kernel_rfl) (fun K hK => ?_)
        go_simp
        with_reducible refine (start_i a2 n2 cap2 hs r knc HK.out.1 HK.out.2 S HS.out.1 _ T8.out.r2).mono ?_
        rintro e x9 ⟨rfl, hb9⟩
        have T9 := Lib.hid (T8.out.call hb9)
        have N1_x7_x8_x9 := Lib.hid (N1_x7_x8.out.under hb9)
        have N7_x8_x9 := Lib.hid (N7_x8.out.below hb9)
        have N8_x9 := Lib.hid (N8.out.under hb9)
        have Z9 := Lib.hid hb9.size
        refine hK.out _ _ (qbs_of T9.out) (fun hHeld9 => ?_)
        clear hK K hHeld8 hb9
        try simp only [Act.put, List.getElem_toArray, List.getElem_cons_zero, List.getElem_cons_succ, List.setIfInBounds_toArray, List.set_cons_zero, List.set_cons_succ]
        refine wpAnyK_take (i := 6) (v := ?_) rfl (by kernel_rfl) (fun _ _ _ h => h) (Or.inl ⟨by rfl, ?_⟩) (by assumption) ?_
        rotate_left
        · (intro w hSw; (try dsimp only at hSw); go_simp; try with_reducible rfl)
        try simp only [Act.put, List.getElem_toArray, List.getElem_cons_zero, List.getElem_cons_succ, List.setIfInBounds_toArray, List.set_cons_zero, List.set_cons_succ]
        refine wpAnyK_done (by kernel_rfl) ?_
        simp only [List.drop_succ_cons, List.drop_zero]
        clear hHeld9
        have Z1o := Z1.out
        have L1o := L1.out
        have Z7o := Z7.out
        have L7o := L7.out
        have Z8o := Z8.out
        have L8o := L8.out
        have Z9o := Z9.out
        have HQ := Lib.hid (qc_put T9.out N7_x8_x9.out N1_x7_x8_x9.out N8_x9.out (by omega) (by omega) (by omega) (by omega) (by omega) (by have := T0.out.sz; simp at *; omega) (by have := T0.out.sz; simp at *; omega) X1.out X2.out (.int .i64 S) (.int .i64 1) (.int .i64 0) (.bool false))
        obtain ⟨⟨c0, c1, c2, f0, f1, f2⟩, c3, c4, c5, f3, f4, f5⟩ := N7_x8_x9.out
        go_wp2_with fail
        go_meet
        exact ⟨_, A, B, rfl, HQ⟩
    · go_simp
      obtain ⟨x10, hv10⟩ : ∃ W', (W.alloc (.cells #[.nilFunc, .nilFunc, .int .i64 0, .int .i64 0, .int .i64 0, .bool false] 122)).drew = W' := ⟨_, rfl⟩
      have hu10 : W.drew.alloc (.cells #[.nilFunc, .nilFunc, .int .i64 0, .int .i64 0, .int .i64 0, .bool false] 122) = x10 := hv10
      have hb10 : Below W.drew.heap.size W.drew x10 := by rw [← hu10]; exact (Below.refl _ _).alloc (Nat.le_refl _) _
      have N10 := Lib.hid (show P6 x10 W.heap.size .nilFunc .nilFunc (.int .i64 0) (.int .i64 0) (.int .i64 0) (.bool false) by rw [← hu10]; exact p6_new W.drew .nilFunc .nilFunc (.int .i64 0) (.int .i64 0) (.int .i64 0) (.bool false) 122)
      have L10 := Lib.hid (show w.heap.size + 2 < W.heap.size ∧ x10.heap.size = W.heap.size + 1 from ⟨T0.out.sz, by rw [← hu10]; simp⟩)
      rw [hv10]
      clear hu10 hv10
      have T10 := Lib.hid (T0.out.call hb10)
      have Z10 := Lib.hid hb10.size
      refine hK.out _ _ (qbs_of T10.out) (fun hHeld10 => ?_)
      clear hK K hHeld0 hb10
      try simp only [Act.put, List.getElem_toArray, List.getElem_cons_zero, List.getElem_cons_succ, List.setIfInBounds_toArray, List.set_cons_zero, List.set_cons_succ]
      refine wpAnyK_step (i := 1) rfl (by kernel_rfl) (fun K hK => ?_)
      go_simp
      with_reducible refine (pvalues_p a1 n1 cap1 ys q jnc HG.out.1 _ T10.out.r1).mono ?_
      rintro e x11 ⟨A, rfl, hb11, hlA, hmA, hcA⟩
      have N11 := Lib.hid hcA
      have L11 := Lib.hid (And.intro hlA hmA)
      clear hcA hlA hmA
      have T11 := Lib.hid (T10.out.call hb11)
      have N10_x11 := Lib.hid (N10.out.below hb11)
      have Z11 := Lib.hid hb11.size
      refine hK.out _ _ (qbs_of T11.out) (fun hHeld11 => ?_)
      clear hK K hHeld10 hb11
      try simp only [Act.put, List.getElem_toArray, List.getElem_cons_zero, List.getElem_cons_succ, List.setIfInBounds_toArray, List.set_cons_zero, List.set_cons_succ]
      refine wpAnyK_step (i := 3) rfl (by kernel_rfl) (fun K hK => ?_)
      go_simp
      with_reducible refine (pvalues_p a2 n2 cap2 hs r knc HK.out.1 _ T11.out.r2).mono ?_
      rintro e x12 ⟨B, rfl, hb12, hlB, hmB, hcB⟩
      have N12 := Lib.hid hcB
      have L12 := Lib.hid (And.intro hlB hmB)
      clear hcB hlB hmB
      have T12 := Lib.hid (T11.out.call hb12)
      have N10_x11_x12 := Lib.hid (N10_x11.out.below hb12)
      have N11_x12 := Lib.hid (N11.out.under hb12)
      have Z12 := Lib.hid hb12.size
      refine hK.out _ _ (qbs_of T12.out) (fun hHeld12 => ?_)
      clear hK K hHeld11 hb12
      try simp only [Act.put, List.getElem_toArray, List.getElem_cons_zero, List.getElem_cons_succ, List.setIfInBounds_toArray, List.set_cons_zero, List.set_cons_succ]
      refine wpAnyK_step (i := 5) rfl (by kernel_rfl) (fun K hK => ?_)
      go_simp
      with_reducible refine (start_i a2 n2 cap2 hs r knc HK.out.1 HK.out.2 S HS.out.1 _ T12.out.r2).mono ?_
      rintro e x13 ⟨rfl, hb13⟩
      have T13 := Lib.hid (T12.out.call hb13)
      have N10_x11_x12_x13 := Lib.hid (N10_x11_x12.out.below hb13)
      have N11_x12_x13 := Lib.hid (N11_x12.out.under hb13)
      have N12_x13 := Lib.hid (N12.out.under hb13)
      have Z13 := Lib.hid hb13.size
      refine hK.out _ _ (qbs_of T13.out) (fun hHeld13 => ?_)
      clear hK K hHeld12 hb13
      try simp only [Act.put, List.getElem_toArray, List.getElem_cons_zero, List.getElem_cons_succ, List.setIfInBounds_toArray, List.set_cons_zero, List.set_cons_succ]
      refine wpAnyK_take (i := 6) (v := ?_) rfl (by kernel_rfl) (fun _ _ _ h => h) (Or.inl ⟨by rfl, ?_⟩) (by assumption) ?_
      rotate_left
      · (intro w hSw; (try dsimp only at hSw); go_simp; try with_reducible rfl)
      try simp only [Act.put, List.getElem_toArray, List.getElem_cons_zero, List.getElem_cons_succ, List.setIfInBounds_toArray, List.set_cons_zero, List.set_cons_succ]
      refine wpAnyK_done (by kernel_rfl) ?_
      simp only [List.drop_succ_cons, List.drop_zero]
      clear hHeld13
      have Z10o := Z10.out
      have L10o := L10.out
      have Z11o := Z11.out
      have L11o := L11.out
      have Z12o := Z12.out
      have L12o := L12.out
      have Z13o := Z13.out
      have HQ := Lib.hid (qc_put T13.out N10_x11_x12_x13.out N11_x12_x13.out N12_x13.out (by omega) (by omega) (by omega) (by omega) (by omega) (by have := T0.out.sz; simp at *; omega) (by have := T0.out.sz; simp at *; omega) X1.out X2.out (.int .i64 S) (.int .i64 1) (.int .i64 0) (.bool false))
      obtain ⟨⟨c0, c1, c2, f0, f1, f2⟩, c3, c4, c5, f3, f4, f5⟩ := N10_x11_x12_x13.out
      go_wp2_with fail
      go_meet
      exact ⟨_, A, B, rfl, HQ⟩
  case rest =>
    obtain ⟨pb, A, B, rfl, C0⟩ := hcut
    obtain ⟨w1, rfl⟩ : ∃ u : World, u = wc := ⟨_, rfl⟩
    clear T0 X1 X2 HW
    obtain ⟨xf, yf, bf, hSF, hbf, hbfi⟩ : ∃ xf yf bf, (∀ u, RowZ u a1 n1 cap1 ys → Calls Try.prog 176 #[curV a1 n1 cap1 q jnc] u (Slopes xf yf bf u)) ∧ (bf = true → newF jnc q = (xf, yf, 0)) ∧ (bf = true ↔ ¬ InfC ys) := by
      by_cases hi : InfC ys
      · exact ⟨0, 0, false, fun u hr => slope_no a1 n1 cap1 ys q jnc ⟨by omega, by have := HG.out.1.p2; omega⟩ ⟨by have := HG.out.1.i0; omega, by have := HG.out.1.i1; omega⟩ (finB_inf hi) u hr, fun h => Bool.noConfusion h, fun h => Bool.noConfusion h, fun h => absurd hi h⟩
      · obtain ⟨x, y, hn, _⟩ := newF_slope HG.out.1.p1 HG.out.1.p2 HG.out.1.i0 HG.out.1.i1
        exact ⟨x, y, true, fun u hr => slope_ok a1 n1 cap1 ys q jnc HG.out.1 hi x y hn u hr, fun _ => hn, fun _ => hi, fun _ => rfl⟩
    obtain ⟨xh, yh, bh, hSH, hbh⟩ : ∃ xh yh bh, (∀ u, RowZ u a2 n2 cap2 hs → Calls Try.prog 176 #[curV a2 n2 cap2 r knc] u (Slopes xh yh bh u)) ∧ (¬ InfC hs → newF knc r = (xh, yh, 0)) := by
      by_cases hi : InfC hs
      · exact ⟨0, 0, false, fun u hr => slope_no a2 n2 cap2 hs r knc ⟨by omega, by have := HK.out.1.p2; omega⟩ ⟨by have := HK.out.1.i0; omega, by have := HK.out.1.i1; omega⟩ (finB_inf hi) u hr, fun h => absurd hi h⟩
      · obtain ⟨x, y, hn, _⟩ := newF_slope HK.out.1.p1 HK.out.1.p2 HK.out.1.i0 HK.out.1.i1
        exact ⟨x, y, true, fun u hr => slope_ok a2 n2 cap2 hs r knc HK.out.1 hi x y hn u hr, fun _ => hn⟩
    have HSF := Lib.hid hSF
    have HSH := Lib.hid hSH
    have HAL := Lib.hid (show ¬ InfC hs → ((bf = true ∧ xf = xh ∧ yf = yh) ↔ Alike ys q jnc r knc) from fun hi => by
      unfold Alike
      rw [← hbfi]
      constructor
      · rintro ⟨h1, h2⟩
        exact ⟨h1, (slope_same HG.out.1.p1 HK.out.1.p1 HG.out.1.i0 HK.out.1.i0 (hbf h1) (hbh hi)).1 h2⟩
      · rintro ⟨h1, h2⟩
        exact ⟨h1, (slope_same HG.out.1.p1 HK.out.1.p1 HG.out.1.i0 HK.out.1.i0 (hbf h1) (hbh hi)).2 h2⟩)
    clear hSF hSH hbf hbh hbfi
    obtain ⟨L, hL⟩ : ∃ L, comL q hs r = L := ⟨_, rfl⟩
    have HL := Lib.hid hL
    have bq1 := HG.out.1.p1
    have bq2 := HG.out.1.p2
    have br1 := HK.out.1.p1
    have br2 := HK.out.1.p2
    have bL : L ≤ 14400 := by
      rw [← hL]
      by_cases hi : InfC hs
      · rw [comL_inf hi]; omega
      · rw [comL_fin hi]
        exact Nat.mul_le_mul (Nat.le_trans (Nat.div_le_self _ _) bq2) br2
    have iq : In64 (r : Int) := ⟨by omega, by omega⟩
    have ij : In64 knc := ⟨by have := HK.out.1.i0; omega, by have := HK.out.1.i1; omega⟩
    clear hL
    obtain ⟨fb, hfb⟩ : ∃ fb, finB hs r knc = fb := ⟨_, rfl⟩
    have HFB := Lib.hid hfb
    obtain ⟨c0, c1, c2, f0, f1, f2⟩ := C0.out.b.bh
    clear hfb
    go_wp2_with fail
    refine (finite_any a2 n2 cap2 hs r knc iq ij fb HFB.out _ C0.out.b.r2).mono ?_
    rintro e u3 ⟨rfl, hb⟩
    have C1 := Lib.hid (C0.out.call hb)
    clear hb c0 c1 c2 f0 f1 f2
    go_upto_if 18 with fail
    go_cut [] (fun wx => Hid (QC w a1 n1 cap1 ys q jnc a2 n2 cap2 hs r knc pb A B (.int .i64 S) (.int .i64 L) (.int .i64 0) (.bool false) wx))
    case first =>
      by_cases hi : InfC hs
      · have hL1 : L = 1 := by rw [← HL.out, comL_inf hi]
        obtain rfl : fb = false := by rw [← HFB.out]; exact finB_inf hi
        clear hi
        go_wp2_with fail
        go_meet
        rw [hL1]
        exact C1
      · have hLf := HL.out
        rw [comL_fin hi] at hLf
        have HLF := Lib.hid hLf
        obtain rfl : fb = true := by rw [← HFB.out]; exact finB_fin ((okC_iff hs r knc).2 HK.out.1) hi
        clear hi hLf
        obtain ⟨c0, c1, c2, f0, f1, f2⟩ := C1.out.b.bh
        obtain ⟨d0, d1, d2, g0, g1, g2⟩ := C1.out.b.bf
        go_wp2_with fail
        refine (common_any q r L HLF.out bq1 (by omega) br1 (by omega) _).mono ?_
        rintro e u4 ⟨rfl, hd⟩
        have C2 := Lib.hid (C1.out.call (below_dr (Below.refl _ _) hd))
        have C3 := Lib.hid (C2.out.set3 (.int .i64 L))
        clear hd c0 c1 c2 f0 f1 f2 d0 d1 d2 g0 g1 g2
        obtain ⟨⟨c0, c1, c2, f0, f1, f2⟩, c3, c4, c5, f3, f4, f5⟩ := C2.out.pr
        go_wp2_with fail
        go_meet
        exact C3
    case rest =>
      have C4 : Hid (QC w a1 n1 cap1 ys q jnc a2 n2 cap2 hs r knc pb A B (.int .i64 S) (.int .i64 L) (.int .i64 0) (.bool false) wc) := hcut
      obtain ⟨w4, rfl⟩ : ∃ u : World, u = wc := ⟨_, rfl⟩
      clear C0 C1 iq ij HFB
      obtain ⟨S2, hS2⟩ : ∃ k, 2 * S = k := ⟨_, rfl⟩
      have s2i : (2 : Int) * (S : Int) = (S2 : Int) := by omega
      have s2w : IntKind.i64.wrap (S2 : Int) = (S2 : Int) := IntWalk.i64_in _ ⟨by omega, by omega⟩
      obtain ⟨M, hM⟩ : ∃ k, max Sf S2 = k := ⟨_, rfl⟩
      obtain ⟨M1, hM1⟩ : ∃ k, M + L = k := ⟨_, rfl⟩
      have m1i : (M : Int) + (L : Int) = (M1 : Int) := by omega
      have m1w : IntKind.i64.wrap (M1 : Int) = (M1 : Int) := IntWalk.i64_in _ ⟨by omega, by omega⟩
      obtain ⟨R, hR⟩ : ∃ k, M1 + 1 = k := ⟨_, rfl⟩
      have ri : (M1 : Int) + 1 = (R : Int) := by omega
      have rw' : IntKind.i64.wrap (R : Int) = (R : Int) := IntWalk.i64_in _ ⟨by omega, by omega⟩
      have HR := Lib.hid (show R = max Sf (2 * S) + L + 1 by omega)
      go_upto_region 4 with fail
      go_cut [] (fun wx => Hid (QC w a1 n1 cap1 ys q jnc a2 n2 cap2 hs r knc pb A B (.int .i64 S) (.int .i64 L) (.int .i64 R) (.bool false) wx))
      case first =>
        have hcase : (Sf < S2 ∧ M = S2) ∨ (¬ Sf < S2 ∧ M = Sf) := by omega
        have C5 := Lib.hid (C4.out.call (Below.refl _ _).drew)
        clear C4 hS2 hM hM1 hR
        rcases hcase with ⟨hl, hm⟩ | ⟨hl, hm⟩
        · have t1 := hl
          have t1i : (Sf : Int) < (S2 : Int) := by omega
          have t2 : ¬ (S2 : Int) < (Sf : Int) := by omega
          have t3 : decide ((Sf : Int) < (S2 : Int)) = true := decide_eq_true t1i
          have m2i : (S2 : Int) + (L : Int) = (M1 : Int) := by omega
          clear hm m1i
          refine wp_region_keeps (fun u => QCS w a1 n1 cap1 ys q jnc a2 n2 cap2 hs r knc pb A B (.int .i64 S) (.int .i64 L) (.int .i64 0) (.bool false) u) 10 2 (by kernel_rfl) (by kernel_rfl) (qcs_of C5.out) (fun hHeld0 => ?_)
          refine wpAnyK_take (i := 0) (v := ?_) rfl (by kernel_rfl) (fun _ _ _ h => h) (Or.inl ⟨by rfl, ?_⟩) (by assumption) ?_
          rotate_left
          · (intro w hSw; (try dsimp only at hSw); go_simp; try with_reducible rfl)
          try simp only [Act.put, List.getElem_toArray, List.getElem_cons_zero, List.getElem_cons_succ, List.setIfInBounds_toArray, List.set_cons_zero, List.set_cons_succ]
          refine wpAnyK_take (i := 2) (v := ?_) rfl (by kernel_rfl) (fun _ _ _ h => h) (Or.inl ⟨by rfl, ?_⟩) (by assumption) ?_
          rotate_left
          · (intro w hSw; (try dsimp only at hSw); go_simp; try with_reducible rfl)
          try simp only [Act.put, List.getElem_toArray, List.getElem_cons_zero, List.getElem_cons_succ, List.setIfInBounds_toArray, List.set_cons_zero, List.set_cons_succ]
          refine wpAnyK_take (i := 3) (v := ?_) rfl (by kernel_rfl) (fun _ _ _ h => h) (Or.inl ⟨by rfl, ?_⟩) (by assumption) ?_
          rotate_left
          · (intro w hSw; (try dsimp only at hSw); go_simp; try with_reducible rfl)
          try simp only [Act.put, List.getElem_toArray, List.getElem_cons_zero, List.getElem_cons_succ, List.setIfInBounds_toArray, List.set_cons_zero, List.set_cons_succ]
          refine wpAnyK_take (i := 4) (v := ?_) rfl (by kernel_rfl) (fun _ _ _ h => h) (Or.inl ⟨by rfl, ?_⟩) (by assumption) ?_
          rotate_left
          · (intro w hSw; (try dsimp only at hSw); go_simp; try with_reducible rfl)
          try simp only [Act.put, List.getElem_toArray, List.getElem_cons_zero, List.getElem_cons_succ, List.setIfInBounds_toArray, List.set_cons_zero, List.set_cons_succ]
          refine wpAnyK_take (i := 6) (v := ?_) rfl (by kernel_rfl) (fun _ _ _ h => h) (Or.inl ⟨by rfl, ?_⟩) (by assumption) ?_
          rotate_left
          · (intro w hSw; (try dsimp only at hSw); go_simp; try with_reducible rfl)
          try simp only [Act.put, List.getElem_toArray, List.getElem_cons_zero, List.getElem_cons_succ, List.setIfInBounds_toArray, List.set_cons_zero, List.set_cons_succ]
          refine wpAnyK_take (i := 7) (v := ?_) rfl (by kernel_rfl) (fun _ _ _ h => h) (Or.inl ⟨by rfl, ?_⟩) (by assumption) ?_
          rotate_left
          · (intro w hSw; (try dsimp only at hSw); go_simp; try with_reducible rfl)
          try simp only [Act.put, List.getElem_toArray, List.getElem_cons_zero, List.getElem_cons_succ, List.setIfInBounds_toArray, List.set_cons_zero, List.set_cons_succ]
          refine wpAnyK_step (i := 1) rfl (by kernel_rfl) (fun K hK => ?_)
          go_simp
          with_reducible refine (start_i a1 n1 cap1 ys q jnc HG.out.1 HG.out.2 Sf HS.out.2 _ C5.out.b.r1).mono ?_
          rintro e u9 ⟨rfl, hb9⟩
          have C5b := Lib.hid (C5.out.call hb9)
          clear hb9
          refine hK.out _ _ (qcs_of C5b.out) (fun hHeld1 => ?_)
          clear hK K hHeld0
          try simp only [Act.put, List.getElem_toArray, List.getElem_cons_zero, List.getElem_cons_succ, List.setIfInBounds_toArray, List.set_cons_zero, List.set_cons_succ]
          refine wpAnyK_take (i := 5) (v := ?_) rfl (by kernel_rfl) (fun _ _ _ h => h) (Or.inl ⟨by rfl, ?_⟩) (by assumption) ?_
          rotate_left
          · (intro w hSw; (try dsimp only at hSw); go_simp; try with_reducible rfl)
          try simp only [Act.put, List.getElem_toArray, List.getElem_cons_zero, List.getElem_cons_succ, List.setIfInBounds_toArray, List.set_cons_zero, List.set_cons_succ]
          refine wpAnyK_take (i := 8) (v := ?_) rfl (by kernel_rfl) (fun _ _ _ h => h) (Or.inl ⟨by rfl, ?_⟩) (by assumption) ?_
          rotate_left
          · (intro w hSw; (try dsimp only at hSw); go_simp; try with_reducible rfl)
          try simp only [Act.put, List.getElem_toArray, List.getElem_cons_zero, List.getElem_cons_succ, List.setIfInBounds_toArray, List.set_cons_zero, List.set_cons_succ]
          refine wpAnyK_take (i := 9) (v := ?_) rfl (by kernel_rfl) (fun _ _ _ h => h) (Or.inl ⟨by rfl, ?_⟩) (by assumption) ?_
          rotate_left
          · (intro w hSw; (try dsimp only at hSw); go_simp; try with_reducible rfl)
          try simp only [Act.put, List.getElem_toArray, List.getElem_cons_zero, List.getElem_cons_succ, List.setIfInBounds_toArray, List.set_cons_zero, List.set_cons_succ]
          refine wpAnyK_done (by kernel_rfl) ?_
          simp only [List.drop_succ_cons, List.drop_zero]
          clear hHeld1
          have C6 := Lib.hid (C5b.out.set4 (.int .i64 R))
          obtain ⟨⟨c0, c1, c2, f0, f1, f2⟩, c3, c4, c5, f3, f4, f5⟩ := C5b.out.pr
          go_wp2_with fail
          go_meet
          exact C6
        · have t1 := hl
          have t1i : ¬ (Sf : Int) < (S2 : Int) := by omega
          have t2 : (S2 : Int) ≤ (Sf : Int) := by omega
          have t3 : decide ((Sf : Int) < (S2 : Int)) = false := decide_eq_false t1i
          have m2i : (Sf : Int) + (L : Int) = (M1 : Int) := by omega
          clear hm m1i
          refine wp_region_keeps (fun u => QCS w a1 n1 cap1 ys q jnc a2 n2 cap2 hs r knc pb A B (.int .i64 S) (.int .i64 L) (.int .i64 0) (.bool false) u) 10 2 (by kernel_rfl) (by kernel_rfl) (qcs_of C5.out) (fun hHeld0 => ?_)
          refine wpAnyK_take (i := 0) (v := ?_) rfl (by kernel_rfl) (fun _ _ _ h => h) (Or.inl ⟨by rfl, ?_⟩) (by assumption) ?_
          rotate_left
          · (intro w hSw; (try dsimp only at hSw); go_simp; try with_reducible rfl)
          try simp only [Act.put, List.getElem_toArray, List.getElem_cons_zero, List.getElem_cons_succ, List.setIfInBounds_toArray, List.set_cons_zero, List.set_cons_succ]
          refine wpAnyK_take (i := 2) (v := ?_) rfl (by kernel_rfl) (fun _ _ _ h => h) (Or.inl ⟨by rfl, ?_⟩) (by assumption) ?_
          rotate_left
          · (intro w hSw; (try dsimp only at hSw); go_simp; try with_reducible rfl)
          try simp only [Act.put, List.getElem_toArray, List.getElem_cons_zero, List.getElem_cons_succ, List.setIfInBounds_toArray, List.set_cons_zero, List.set_cons_succ]
          refine wpAnyK_take (i := 3) (v := ?_) rfl (by kernel_rfl) (fun _ _ _ h => h) (Or.inl ⟨by rfl, ?_⟩) (by assumption) ?_
          rotate_left
          · (intro w hSw; (try dsimp only at hSw); go_simp; try with_reducible rfl)
          try simp only [Act.put, List.getElem_toArray, List.getElem_cons_zero, List.getElem_cons_succ, List.setIfInBounds_toArray, List.set_cons_zero, List.set_cons_succ]
          refine wpAnyK_take (i := 4) (v := ?_) rfl (by kernel_rfl) (fun _ _ _ h => h) (Or.inl ⟨by rfl, ?_⟩) (by assumption) ?_
          rotate_left
          · (intro w hSw; (try dsimp only at hSw); go_simp; try with_reducible rfl)
          try simp only [Act.put, List.getElem_toArray, List.getElem_cons_zero, List.getElem_cons_succ, List.setIfInBounds_toArray, List.set_cons_zero, List.set_cons_succ]
          refine wpAnyK_take (i := 6) (v := ?_) rfl (by kernel_rfl) (fun _ _ _ h => h) (Or.inl ⟨by rfl, ?_⟩) (by assumption) ?_
          rotate_left
          · (intro w hSw; (try dsimp only at hSw); go_simp; try with_reducible rfl)
          try simp only [Act.put, List.getElem_toArray, List.getElem_cons_zero, List.getElem_cons_succ, List.setIfInBounds_toArray, List.set_cons_zero, List.set_cons_succ]
          refine wpAnyK_take (i := 7) (v := ?_) rfl (by kernel_rfl) (fun _ _ _ h => h) (Or.inl ⟨by rfl, ?_⟩) (by assumption) ?_
          rotate_left
          · (intro w hSw; (try dsimp only at hSw); go_simp; try with_reducible rfl)
          try simp only [Act.put, List.getElem_toArray, List.getElem_cons_zero, List.getElem_cons_succ, List.setIfInBounds_toArray, List.set_cons_zero, List.set_cons_succ]
          refine wpAnyK_step (i := 1) rfl (by kernel_rfl) (fun K hK => ?_)
          go_simp
          with_reducible refine (start_i a1 n1 cap1 ys q jnc HG.out.1 HG.out.2 Sf HS.out.2 _ C5.out.b.r1).mono ?_
          rintro e u9 ⟨rfl, hb9⟩
          have C5b := Lib.hid (C5.out.call hb9)
          clear hb9
          refine hK.out _ _ (qcs_of C5b.out) (fun hHeld1 => ?_)
          clear hK K hHeld0
          try simp only [Act.put, List.getElem_toArray, List.getElem_cons_zero, List.getElem_cons_succ, List.setIfInBounds_toArray, List.set_cons_zero, List.set_cons_succ]
          refine wpAnyK_take (i := 5) (v := ?_) rfl (by kernel_rfl) (fun _ _ _ h => h) (Or.inl ⟨by rfl, ?_⟩) (by assumption) ?_
          rotate_left
          · (intro w hSw; (try dsimp only at hSw); go_simp; try with_reducible rfl)
          try simp only [Act.put, List.getElem_toArray, List.getElem_cons_zero, List.getElem_cons_succ, List.setIfInBounds_toArray, List.set_cons_zero, List.set_cons_succ]
          refine wpAnyK_take (i := 8) (v := ?_) rfl (by kernel_rfl) (fun _ _ _ h => h) (Or.inl ⟨by rfl, ?_⟩) (by assumption) ?_
          rotate_left
          · (intro w hSw; (try dsimp only at hSw); go_simp; try with_reducible rfl)
          try simp only [Act.put, List.getElem_toArray, List.getElem_cons_zero, List.getElem_cons_succ, List.setIfInBounds_toArray, List.set_cons_zero, List.set_cons_succ]
          refine wpAnyK_take (i := 9) (v := ?_) rfl (by kernel_rfl) (fun _ _ _ h => h) (Or.inl ⟨by rfl, ?_⟩) (by assumption) ?_
          rotate_left
          · (intro w hSw; (try dsimp only at hSw); go_simp; try with_reducible rfl)
          try simp only [Act.put, List.getElem_toArray, List.getElem_cons_zero, List.getElem_cons_succ, List.setIfInBounds_toArray, List.set_cons_zero, List.set_cons_succ]
          refine wpAnyK_done (by kernel_rfl) ?_
          simp only [List.drop_succ_cons, List.drop_zero]
          clear hHeld1
          have C6 := Lib.hid (C5b.out.set4 (.int .i64 R))
          obtain ⟨⟨c0, c1, c2, f0, f1, f2⟩, c3, c4, c5, f3, f4, f5⟩ := C5b.out.pr
          go_wp2_with fail
          go_meet
          exact C6
      case rest =>
        have C7 : Hid (QC w a1 n1 cap1 ys q jnc a2 n2 cap2 hs r knc pb A B (.int .i64 S) (.int .i64 L) (.int .i64 R) (.bool false) wc) := hcut
        obtain ⟨w5, rfl⟩ : ∃ u : World, u = wc := ⟨_, rfl⟩
        clear C4 hS2 hM hM1 hR s2i s2w m1i m1w ri rw'
        obtain ⟨c0, c1, c2, f0, f1, f2⟩ := C7.out.b.bf
        have hcase : (bf = false) ∨ (bf = true ∧ xf = xh ∧ yf = yh) ∨ (bf = true ∧ xf = xh ∧ ¬ yf = yh) ∨ (bf = true ∧ ¬ xf = xh) := by
          cases bf with
          | false => exact .inl rfl
          | true =>
            by_cases e1 : xf = xh
            · by_cases e2 : yf = yh
              · exact .inr (.inl ⟨rfl, e1, e2⟩)
              · exact .inr (.inr (.inl ⟨rfl, e1, e2⟩))
            · exact .inr (.inr (.inr ⟨rfl, e1⟩))
        rcases hcase with rfl | ⟨rfl, rfl, rfl⟩ | ⟨rfl, rfl, hne⟩ | ⟨rfl, hne⟩
        · have HA := Lib.hid (show ¬ InfC hs → (false = true ↔ Alike ys q jnc r knc) from fun hi => by
            rw [← HAL.out hi]
            simp)
          clear HAL
          go_wp2_with fail
          refine (HSF.out _ C7.out.b.r1).mono ?_
          rintro e u5 ⟨rfl, hb⟩
          have hbx := qbox_below u5 (.cells #[.int .i64 xf, .int .i64 yf] 154)
          have C8 := Lib.hid ((C7.out.call hb).call hbx)
          have X8 := Lib.hid (FBox.new u5 xf yf 154)
          clear c0 c1 c2 f0 f1 f2
          obtain ⟨c0, c1, c2, f0, f1, f2⟩ := (C7.out.call hb).b.bf
          obtain ⟨d0, d1, d2, g0, g1, g2⟩ := (C7.out.call hb).b.bh
          have q1 := (C7.out.call hb).b.bh.lt
          have q2 := (C7.out.call hb).b.bf.lt
          clear hb hbx C7
          go_wp2_with fail
          clear c0 c1 c2 f0 f1 f2 d0 d1 d2 g0 g1 g2 q1 q2
          generalize u5.alloc (.cells #[.int .i64 xf, .int .i64 yf] 154) = u6 at C8 X8 ⊢
          refine (HSH.out _ C8.out.b.r2).mono ?_
          rintro e u7 ⟨rfl, hb⟩
          have hbx := qbox_below u7 (.cells #[.int .i64 xh, .int .i64 yh] 154)
          have C9 := Lib.hid ((C8.out.call hb).call hbx)
          have X9 := Lib.hid ((X8.out.below hb).below (qbox_below u7 (.cells #[.int .i64 xh, .int .i64 yh] 154)))
          have Y9 := Lib.hid (FBox.new u7 xh yh 154)
          obtain ⟨⟨c0, c1, c2, f0, f1, f2⟩, c3, c4, c5, f3, f4, f5⟩ := (C8.out.call hb).pr
          have q1 := (C8.out.call hb).pr.lt
          obtain ⟨d0, d1⟩ := X8.out.below hb
          have q2 := lt_of_cell d0
          obtain ⟨⟨r0, r1, r2, s0, s1, s2⟩, r3, r4, r5, s3, s4, s5⟩ := (C8.out.call hb).b.res
          have q3 := (C8.out.call hb).b.res.lt
          have q4 := (C8.out.call hb).lp
          have C10 := Lib.hid (fun W hW => ((C8.out.call hb).set5 (.bool false)).fin (closPV A) (closPV B) (.int .i64 S) (.int .i64 L) (.int .i64 R) (.bool false) (.cells #[.int .i64 xh, .int .i64 yh] 154) (W := W) hW)
          have hne1 : ¬ pb = w.heap.size + 2 := by omega
          have hne2 : ¬ w.heap.size + 2 = pb := by omega
          clear hb hbx C8 X8 C9
          go_wp2_with fail
          obtain ⟨Wz, hWz⟩ : ∃ W, (((((((u7.setCell ⟨pb, 5, none⟩ (.bool false)).setCell ⟨w.heap.size + 1 + 1, 0, none⟩ (closPV A)).setCell ⟨w.heap.size + 1 + 1, 1, none⟩ (closPV B)).setCell ⟨w.heap.size + 1 + 1, 2, none⟩ (.int .i64 S)).setCell ⟨w.heap.size + 1 + 1, 3, none⟩ (.int .i64 L)).setCell ⟨w.heap.size + 1 + 1, 4, none⟩ (.int .i64 R)).setCell ⟨w.heap.size + 1 + 1, 5, none⟩ (.bool false)).alloc (.cells #[.int .i64 xh, .int .i64 yh] 154) = W := ⟨_, rfl⟩
          have C11 := C10.out Wz hWz
          rw [hWz]
          clear r0 r1 r2 s0 s1 s2 r3 r4 r5 s3 s4 s5
          obtain ⟨⟨r0, r1, r2, s0, s1, s2⟩, r3, r4, r5, s3, s4, s5⟩ := C11.2.2.2
          exact bodyPost_ret (v := cpV ⟨a1, n1, cap1, q, jnc, a2, n2, cap2, r, knc, A, B, S, L, R, false⟩) (by simp [results, Try.results109, go_sem, r0, r1, r2, r3, r4, r5]) rfl ⟨⟨a1, n1, cap1, q, jnc, a2, n2, cap2, r, knc, A, B, S, L, R, false⟩, rfl, C11.1, ⟨HG.out.1, HK.out.1, (show S = hs.length - r by have := HS.out.1; omega), HL.out.symm, (show R = horC ys q hs r L by have := HR.out; have := HS.out; unfold horC; omega), (by first | exact HA.out | exact fun hi => ⟨fun _ => (HA.out hi).1 trivial, fun _ => rfl⟩)⟩, ⟨C11.2.1, C11.2.2.1⟩, rfl, rfl, rfl, rfl⟩
        · have HA := Lib.hid (show ¬ InfC hs → (true = true ↔ Alike ys q jnc r knc) from fun hi => by
            rw [← HAL.out hi]
            simp)
          clear HAL
          go_wp2_with fail
          refine (HSF.out _ C7.out.b.r1).mono ?_
          rintro e u5 ⟨rfl, hb⟩
          have hbx := qbox_below u5 (.cells #[.int .i64 xf, .int .i64 yf] 154)
          have C8 := Lib.hid ((C7.out.call hb).call hbx)
          have X8 := Lib.hid (FBox.new u5 xf yf 154)
          clear c0 c1 c2 f0 f1 f2
          obtain ⟨c0, c1, c2, f0, f1, f2⟩ := (C7.out.call hb).b.bf
          obtain ⟨d0, d1, d2, g0, g1, g2⟩ := (C7.out.call hb).b.bh
          have q1 := (C7.out.call hb).b.bh.lt
          have q2 := (C7.out.call hb).b.bf.lt
          clear hb hbx C7
          go_wp2_with fail
          clear c0 c1 c2 f0 f1 f2 d0 d1 d2 g0 g1 g2 q1 q2
          generalize u5.alloc (.cells #[.int .i64 xf, .int .i64 yf] 154) = u6 at C8 X8 ⊢
          refine (HSH.out _ C8.out.b.r2).mono ?_
          rintro e u7 ⟨rfl, hb⟩
          have hbx := qbox_below u7 (.cells #[.int .i64 xf, .int .i64 yf] 154)
          have C9 := Lib.hid ((C8.out.call hb).call hbx)
          have X9 := Lib.hid ((X8.out.below hb).below (qbox_below u7 (.cells #[.int .i64 xf, .int .i64 yf] 154)))
          have Y9 := Lib.hid (FBox.new u7 xf yf 154)
          obtain ⟨⟨c0, c1, c2, f0, f1, f2⟩, c3, c4, c5, f3, f4, f5⟩ := (C8.out.call hb).pr
          have q1 := (C8.out.call hb).pr.lt
          obtain ⟨d0, d1⟩ := X8.out.below hb
          have q2 := lt_of_cell d0
          obtain ⟨⟨r0, r1, r2, s0, s1, s2⟩, r3, r4, r5, s3, s4, s5⟩ := (C8.out.call hb).b.res
          have q3 := (C8.out.call hb).b.res.lt
          have q4 := (C8.out.call hb).lp
          have C10 := Lib.hid (fun W hW => ((C8.out.call hb).set5 (.bool true)).fin (closPV A) (closPV B) (.int .i64 S) (.int .i64 L) (.int .i64 R) (.bool true) (.cells #[.int .i64 xf, .int .i64 yf] 154) (W := W) hW)
          have hne1 : ¬ pb = w.heap.size + 2 := by omega
          have hne2 : ¬ w.heap.size + 2 = pb := by omega
          clear hb hbx C8 X8 C9
          go_wp2_with fail
          obtain ⟨Wz, hWz⟩ : ∃ W, (((((((u7.setCell ⟨pb, 5, none⟩ (.bool true)).setCell ⟨w.heap.size + 1 + 1, 0, none⟩ (closPV A)).setCell ⟨w.heap.size + 1 + 1, 1, none⟩ (closPV B)).setCell ⟨w.heap.size + 1 + 1, 2, none⟩ (.int .i64 S)).setCell ⟨w.heap.size + 1 + 1, 3, none⟩ (.int .i64 L)).setCell ⟨w.heap.size + 1 + 1, 4, none⟩ (.int .i64 R)).setCell ⟨w.heap.size + 1 + 1, 5, none⟩ (.bool true)).alloc (.cells #[.int .i64 xf, .int .i64 yf] 154) = W := ⟨_, rfl⟩
          have C11 := C10.out Wz hWz
          rw [hWz]
          clear r0 r1 r2 s0 s1 s2 r3 r4 r5 s3 s4 s5
          obtain ⟨⟨r0, r1, r2, s0, s1, s2⟩, r3, r4, r5, s3, s4, s5⟩ := C11.2.2.2
          exact bodyPost_ret (v := cpV ⟨a1, n1, cap1, q, jnc, a2, n2, cap2, r, knc, A, B, S, L, R, true⟩) (by simp [results, Try.results109, go_sem, r0, r1, r2, r3, r4, r5]) rfl ⟨⟨a1, n1, cap1, q, jnc, a2, n2, cap2, r, knc, A, B, S, L, R, true⟩, rfl, C11.1, ⟨HG.out.1, HK.out.1, (show S = hs.length - r by have := HS.out.1; omega), HL.out.symm, (show R = horC ys q hs r L by have := HR.out; have := HS.out; unfold horC; omega), (by first | exact HA.out | exact fun hi => ⟨fun _ => (HA.out hi).1 trivial, fun _ => rfl⟩)⟩, ⟨C11.2.1, C11.2.2.1⟩, rfl, rfl, rfl, rfl⟩
        · have t1 : (yf == yh) = false := by simpa using hne
          have HA := Lib.hid (show ¬ InfC hs → (false = true ↔ Alike ys q jnc r knc) from fun hi => by
            rw [← HAL.out hi]
            simp [hne])
          clear HAL
          go_wp2_with fail
          refine (HSF.out _ C7.out.b.r1).mono ?_
          rintro e u5 ⟨rfl, hb⟩
          have hbx := qbox_below u5 (.cells #[.int .i64 xf, .int .i64 yf] 154)
          have C8 := Lib.hid ((C7.out.call hb).call hbx)
          have X8 := Lib.hid (FBox.new u5 xf yf 154)
          clear c0 c1 c2 f0 f1 f2
          obtain ⟨c0, c1, c2, f0, f1, f2⟩ := (C7.out.call hb).b.bf
          obtain ⟨d0, d1, d2, g0, g1, g2⟩ := (C7.out.call hb).b.bh
          have q1 := (C7.out.call hb).b.bh.lt
          have q2 := (C7.out.call hb).b.bf.lt
          clear hb hbx C7
          go_wp2_with fail
          clear c0 c1 c2 f0 f1 f2 d0 d1 d2 g0 g1 g2 q1 q2
          generalize u5.alloc (.cells #[.int .i64 xf, .int .i64 yf] 154) = u6 at C8 X8 ⊢
          refine (HSH.out _ C8.out.b.r2).mono ?_
          rintro e u7 ⟨rfl, hb⟩
          have hbx := qbox_below u7 (.cells #[.int .i64 xf, .int .i64 yh] 154)
          have C9 := Lib.hid ((C8.out.call hb).call hbx)
          have X9 := Lib.hid ((X8.out.below hb).below (qbox_below u7 (.cells #[.int .i64 xf, .int .i64 yh] 154)))
          have Y9 := Lib.hid (FBox.new u7 xf yh 154)
          obtain ⟨⟨c0, c1, c2, f0, f1, f2⟩, c3, c4, c5, f3, f4, f5⟩ := (C8.out.call hb).pr
          have q1 := (C8.out.call hb).pr.lt
          obtain ⟨d0, d1⟩ := X8.out.below hb
          have q2 := lt_of_cell d0
          obtain ⟨⟨r0, r1, r2, s0, s1, s2⟩, r3, r4, r5, s3, s4, s5⟩ := (C8.out.call hb).b.res
          have q3 := (C8.out.call hb).b.res.lt
          have q4 := (C8.out.call hb).lp
          have C10 := Lib.hid (fun W hW => ((C8.out.call hb).set5 (.bool false)).fin (closPV A) (closPV B) (.int .i64 S) (.int .i64 L) (.int .i64 R) (.bool false) (.cells #[.int .i64 xf, .int .i64 yh] 154) (W := W) hW)
          have hne1 : ¬ pb = w.heap.size + 2 := by omega
          have hne2 : ¬ w.heap.size + 2 = pb := by omega
          clear hb hbx C8 X8 C9
          go_wp2_with fail
          obtain ⟨Wz, hWz⟩ : ∃ W, (((((((u7.setCell ⟨pb, 5, none⟩ (.bool false)).setCell ⟨w.heap.size + 1 + 1, 0, none⟩ (closPV A)).setCell ⟨w.heap.size + 1 + 1, 1, none⟩ (closPV B)).setCell ⟨w.heap.size + 1 + 1, 2, none⟩ (.int .i64 S)).setCell ⟨w.heap.size + 1 + 1, 3, none⟩ (.int .i64 L)).setCell ⟨w.heap.size + 1 + 1, 4, none⟩ (.int .i64 R)).setCell ⟨w.heap.size + 1 + 1, 5, none⟩ (.bool false)).alloc (.cells #[.int .i64 xf, .int .i64 yh] 154) = W := ⟨_, rfl⟩
          have C11 := C10.out Wz hWz
          rw [hWz]
          clear r0 r1 r2 s0 s1 s2 r3 r4 r5 s3 s4 s5
          obtain ⟨⟨r0, r1, r2, s0, s1, s2⟩, r3, r4, r5, s3, s4, s5⟩ := C11.2.2.2
          exact bodyPost_ret (v := cpV ⟨a1, n1, cap1, q, jnc, a2, n2, cap2, r, knc, A, B, S, L, R, false⟩) (by simp [results, Try.results109, go_sem, r0, r1, r2, r3, r4, r5]) rfl ⟨⟨a1, n1, cap1, q, jnc, a2, n2, cap2, r, knc, A, B, S, L, R, false⟩, rfl, C11.1, ⟨HG.out.1, HK.out.1, (show S = hs.length - r by have := HS.out.1; omega), HL.out.symm, (show R = horC ys q hs r L by have := HR.out; have := HS.out; unfold horC; omega), (by first | exact HA.out | exact fun hi => ⟨fun _ => (HA.out hi).1 trivial, fun _ => rfl⟩)⟩, ⟨C11.2.1, C11.2.2.1⟩, rfl, rfl, rfl, rfl⟩
        · have t1 : (xf == xh) = false := by simpa using hne
          have HA := Lib.hid (show ¬ InfC hs → (false = true ↔ Alike ys q jnc r knc) from fun hi => by
            rw [← HAL.out hi]
            simp [hne])
          clear HAL
          go_wp2_with fail
          refine (HSF.out _ C7.out.b.r1).mono ?_
          rintro e u5 ⟨rfl, hb⟩
          have hbx := qbox_below u5 (.cells #[.int .i64 xf, .int .i64 yf] 154)
          have C8 := Lib.hid ((C7.out.call hb).call hbx)
          have X8 := Lib.hid (FBox.new u5 xf yf 154)
          clear c0 c1 c2 f0 f1 f2
          obtain ⟨c0, c1, c2, f0, f1, f2⟩ := (C7.out.call hb).b.bf
          obtain ⟨d0, d1, d2, g0, g1, g2⟩ := (C7.out.call hb).b.bh
          have q1 := (C7.out.call hb).b.bh.lt
          have q2 := (C7.out.call hb).b.bf.lt
          clear hb hbx C7
          go_wp2_with fail
          clear c0 c1 c2 f0 f1 f2 d0 d1 d2 g0 g1 g2 q1 q2
          generalize u5.alloc (.cells #[.int .i64 xf, .int .i64 yf] 154) = u6 at C8 X8 ⊢
          refine (HSH.out _ C8.out.b.r2).mono ?_
          rintro e u7 ⟨rfl, hb⟩
          have hbx := qbox_below u7 (.cells #[.int .i64 xh, .int .i64 yh] 154)
          have C9 := Lib.hid ((C8.out.call hb).call hbx)
          have X9 := Lib.hid ((X8.out.below hb).below (qbox_below u7 (.cells #[.int .i64 xh, .int .i64 yh] 154)))
          have Y9 := Lib.hid (FBox.new u7 xh yh 154)
          obtain ⟨⟨c0, c1, c2, f0, f1, f2⟩, c3, c4, c5, f3, f4, f5⟩ := (C8.out.call hb).pr
          have q1 := (C8.out.call hb).pr.lt
          obtain ⟨d0, d1⟩ := X8.out.below hb
          have q2 := lt_of_cell d0
          obtain ⟨⟨r0, r1, r2, s0, s1, s2⟩, r3, r4, r5, s3, s4, s5⟩ := (C8.out.call hb).b.res
          have q3 := (C8.out.call hb).b.res.lt
          have q4 := (C8.out.call hb).lp
          have C10 := Lib.hid (fun W hW => ((C8.out.call hb).set5 (.bool false)).fin (closPV A) (closPV B) (.int .i64 S) (.int .i64 L) (.int .i64 R) (.bool false) (.cells #[.int .i64 xh, .int .i64 yh] 154) (W := W) hW)
          have hne1 : ¬ pb = w.heap.size + 2 := by omega
          have hne2 : ¬ w.heap.size + 2 = pb := by omega
          clear hb hbx C8 X8 C9
          go_wp2_with fail
          obtain ⟨Wz, hWz⟩ : ∃ W, (((((((u7.setCell ⟨pb, 5, none⟩ (.bool false)).setCell ⟨w.heap.size + 1 + 1, 0, none⟩ (closPV A)).setCell ⟨w.heap.size + 1 + 1, 1, none⟩ (closPV B)).setCell ⟨w.heap.size + 1 + 1, 2, none⟩ (.int .i64 S)).setCell ⟨w.heap.size + 1 + 1, 3, none⟩ (.int .i64 L)).setCell ⟨w.heap.size + 1 + 1, 4, none⟩ (.int .i64 R)).setCell ⟨w.heap.size + 1 + 1, 5, none⟩ (.bool false)).alloc (.cells #[.int .i64 xh, .int .i64 yh] 154) = W := ⟨_, rfl⟩
          have C11 := C10.out Wz hWz
          rw [hWz]
          clear r0 r1 r2 s0 s1 s2 r3 r4 r5 s3 s4 s5
          obtain ⟨⟨r0, r1, r2, s0, s1, s2⟩, r3, r4, r5, s3, s4, s5⟩ := C11.2.2.2
          exact bodyPost_ret (v := cpV ⟨a1, n1, cap1, q, jnc, a2, n2, cap2, r, knc, A, B, S, L, R, false⟩) (by simp [results, Try.results109, go_sem, r0, r1, r2, r3, r4, r5]) rfl ⟨⟨a1, n1, cap1, q, jnc, a2, n2, cap2, r, knc, A, B, S, L, R, false⟩, rfl, C11.1, ⟨HG.out.1, HK.out.1, (show S = hs.length - r by have := HS.out.1; omega), HL.out.symm, (show R = horC ys q hs r L by have := HR.out; have := HS.out; unfold horC; omega), (by first | exact HA.out | exact fun hi => ⟨fun _ => (HA.out hi).1 trivial, fun _ => rfl⟩)⟩, ⟨C11.2.1, C11.2.2.1⟩, rfl, rfl, rfl, rfl⟩
end Go.Proofs.Ytjjaaknjdmijbaa
