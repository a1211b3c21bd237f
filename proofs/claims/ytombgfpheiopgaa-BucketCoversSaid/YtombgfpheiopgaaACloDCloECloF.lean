/- The pair of a curve and of one that may be its closure. By the verifier's side. -/
import Derived.Test.YtombgfpheiopgaaACloACloBCloC
import Derived.Test.YtombgfpheiopgaaACurT
import Derived.Test.YtombgfpheiopgaaAPwE
import Derived.Test.YtombgfpheiopgaaAOrdAS
namespace Go.Proofs.Ytombgfpheiopgaa
open Go.RowKit
set_option linter.unusedSimpArgs false
set_option linter.unusedVariables false

/-- Block p holds a fraction. -/
structure FBox (w : World) (p : Nat) (x d : Int) : Prop where
  c0 : w.cell? ⟨p, 0, none⟩ = some (.int .i64 x)
  c1 : w.cell? ⟨p, 1, none⟩ = some (.int .i64 d)
theorem FBox.below {w w' : World} {p : Nat} {x d : Int} (h : FBox w p x d) (hb : Below w.heap.size w w') : FBox w' p x d :=
  ⟨(hb.cell (lt_of_cell h.c0)).trans h.c0, (hb.cell (lt_of_cell h.c1)).trans h.c1⟩
theorem FBox.new (w : World) (x d : Int) (t : TypeId) : FBox (w.alloc (.cells #[.int .i64 x, .int .i64 d] t)) w.heap.size x d := ⟨by go_simp, by go_simp⟩
/-- While the pair is made: the boxes. -/
structure QB (w : World) (a1 : Option Addr) (n1 cap1 : Nat) (ys : List Int) (q : Nat) (jnc : Int) (a2 : Option Addr) (n2 cap2 : Nat) (hs : List Int) (r : Nat) (knc : Int) (u : World) : Prop where
  bf : Cur3 u w.heap.size (.slice a1 n1 cap1) (.int .i64 q) (.int .i64 jnc)
  bh : Cur3 u (w.heap.size + 1) (.slice a2 n2 cap2) (.int .i64 r) (.int .i64 knc)
  res : P6 u (w.heap.size + 2) .nilFunc .nilFunc (.int .i64 0) (.int .i64 0) (.int .i64 0) (.bool false)
  r1 : RowZ u a1 n1 cap1 ys
  r2 : RowZ u a2 n2 cap2 hs
  below : Below w.heap.size w u
  sz : w.heap.size + 2 < u.heap.size
theorem QB.call {w u v : World} {a1 : Option Addr} {n1 cap1 : Nat} {ys : List Int} {q : Nat} {jnc : Int} {a2 : Option Addr} {n2 cap2 : Nat} {hs : List Int} {r : Nat} {knc : Int} (h : QB w a1 n1 cap1 ys q jnc a2 n2 cap2 hs r knc u) (hb : Below u.heap.size u v) : QB w a1 n1 cap1 ys q jnc a2 n2 cap2 hs r knc v :=
  ⟨h.bf.below hb, h.bh.below hb, h.res.below hb, h.r1.under hb, h.r2.under hb, h.below.trans (hb.mono h.below.size), Nat.lt_of_lt_of_le h.sz hb.size⟩
theorem QB.far {w u : World} {a1 : Option Addr} {n1 cap1 : Nat} {ys : List Int} {q : Nat} {jnc : Int} {a2 : Option Addr} {n2 cap2 : Nat} {hs : List Int} {r : Nat} {knc : Int} (h : QB w a1 n1 cap1 ys q jnc a2 n2 cap2 hs r knc u) (hf1 : ∀ x, a1 = some x → 1 ≤ n1 → x.block < w.heap.size) (hf2 : ∀ x, a2 = some x → 1 ≤ n2 → x.block < w.heap.size) {b : Nat} (hb : w.heap.size + 2 < b) (i : Nat) (v : Value) : QB w a1 n1 cap1 ys q jnc a2 n2 cap2 hs r knc (u.setCell ⟨b, i, none⟩ v) :=
  ⟨h.bf.other (by omega) _ _, h.bh.other (by omega) _ _, h.res.other (by omega) _ _, h.r1.store (fun x hx hn => by have := hf1 x hx hn; omega) _ _, h.r2.store (fun x hx hn => by have := hf2 x hx hn; omega) _ _, h.below.setCell (p := ⟨b, i, none⟩) (by show w.heap.size ≤ b; omega) _, by simpa using h.sz⟩
/-- The pair stands, too. -/
structure QC (w : World) (a1 : Option Addr) (n1 cap1 : Nat) (ys : List Int) (q : Nat) (jnc : Int) (a2 : Option Addr) (n2 cap2 : Nat) (hs : List Int) (r : Nat) (knc : Int) (pb A B : Nat) (z2 z3 z4 z5 : Value) (u : World) : Prop where
  b : QB w a1 n1 cap1 ys q jnc a2 n2 cap2 hs r knc u
  pr : P6 u pb (closPV A) (closPV B) z2 z3 z4 z5
  c1 : ClosP u A a1 n1 cap1 ys q jnc
  c2 : ClosP u B a2 n2 cap2 hs r knc
  m1 : ¬ A = pb
  m2 : ¬ A + 1 = pb
  m3 : ¬ B = pb
  m4 : ¬ B + 1 = pb
  lp : w.heap.size + 2 < pb
  la : w.heap.size + 2 < A
  lb : w.heap.size + 2 < B
  x1 : ∀ x, a1 = some x → 1 ≤ n1 → x.block < w.heap.size
  x2 : ∀ x, a2 = some x → 1 ≤ n2 → x.block < w.heap.size
section
variable {w u v : World} {a1 : Option Addr} {n1 cap1 : Nat} {ys : List Int} {q : Nat} {jnc : Int} {a2 : Option Addr} {n2 cap2 : Nat} {hs : List Int} {r : Nat} {knc : Int} {pb A B : Nat} {z2 z3 z4 z5 z : Value}
theorem QC.call (h : QC w a1 n1 cap1 ys q jnc a2 n2 cap2 hs r knc pb A B z2 z3 z4 z5 u) (hb : Below u.heap.size u v) : QC w a1 n1 cap1 ys q jnc a2 n2 cap2 hs r knc pb A B z2 z3 z4 z5 v :=
  ⟨h.b.call hb, h.pr.below hb, h.c1.under hb, h.c2.under hb, h.m1, h.m2, h.m3, h.m4, h.lp, h.la, h.lb, h.x1, h.x2⟩
end

end Go.Proofs.Ytombgfpheiopgaa

namespace Go.Proofs.Ytombgfpheiopgaa
open Go.RowKit
set_option linter.unusedSimpArgs false
set_option linter.unusedVariables false

/-- Block b holds a certificate, and may be written. -/
structure P5 (w : World) (b : Nat) (x0 x1 x2 x3 x4 : Value) : Prop where
  lo : Cur3 w b x0 x1 x2
  c3 : w.cell? ⟨b, 3, none⟩ = some x3
  c4 : w.cell? ⟨b, 4, none⟩ = some x4
  f3 : w.frozen? ⟨b, 3, none⟩ = false
  f4 : w.frozen? ⟨b, 4, none⟩ = false
section
variable {w w' : World} {b : Nat} {x0 x1 x2 x3 x4 : Value}
theorem P5.lt (h : P5 w b x0 x1 x2 x3 x4) : b < w.heap.size := h.lo.lt
theorem P5.below (h : P5 w b x0 x1 x2 x3 x4) (hb : Below w.heap.size w w') : P5 w' b x0 x1 x2 x3 x4 :=
  ⟨h.lo.below hb, (hb.cell (p := ⟨b, 3, none⟩) h.lt).trans h.c3, (hb.cell (p := ⟨b, 4, none⟩) h.lt).trans h.c4, (hb.frozen (p := ⟨b, 3, none⟩) h.lt).trans h.f3, (hb.frozen (p := ⟨b, 4, none⟩) h.lt).trans h.f4⟩
theorem P5.other (h : P5 w b x0 x1 x2 x3 x4) {q : Nat} (hq : ¬ b = q) (i : Nat) (v : Value) : P5 (w.setCell ⟨q, i, none⟩ v) b x0 x1 x2 x3 x4 := by
  have hb : (w.setCell ⟨q, i, none⟩ v).heap[b]? = w.heap[b]? := Below.heap_setCell _ _ _ _ hq
  exact ⟨h.lo.other hq i v, (World.cell?_of_block (w := w) (a := ⟨b, 3, none⟩) hb).trans h.c3, (World.cell?_of_block (w := w) (a := ⟨b, 4, none⟩) hb).trans h.c4, (World.frozen?_of_block (w := w) (a := ⟨b, 3, none⟩) hb).trans h.f3, (World.frozen?_of_block (w := w) (a := ⟨b, 4, none⟩) hb).trans h.f4⟩
end

/-- While the closure is proved: the curve in normal form in its box, the result. -/
structure PR (w : World) (a : Option Addr) (n cap : Nat) (ys : List Int) (q : Nat) (jnc : Int) (u : World) : Prop where
  fb : Cur3 u w.heap.size (.slice a n cap) (.int .i64 q) (.int .i64 jnc)
  res : P5 u (w.heap.size + 1) (.slice none 0 0) (.int .i64 0) (.int .i64 0) (.int .i64 0) (.slice none 0 0)
  row : RowZ u a n cap ys
  below : Below w.heap.size w u
  sz : w.heap.size + 1 < u.heap.size
theorem PR.call {w u v : World} {a : Option Addr} {n cap : Nat} {ys : List Int} {q : Nat} {jnc : Int} (h : PR w a n cap ys q jnc u) (hb : Below u.heap.size u v) : PR w a n cap ys q jnc v :=
  ⟨h.fb.below hb, h.res.below hb, h.row.under hb, h.below.trans (hb.mono h.below.size), Nat.lt_of_lt_of_le h.sz hb.size⟩
/-- And the curve that may be the closure, in a box. -/
structure PH (w : World) (a : Option Addr) (n cap : Nat) (ys : List Int) (q : Nat) (jnc : Int) (hb : Nat) (a2 : Option Addr) (n2 cap2 : Nat) (hs : List Int) (r : Nat) (knc : Int) (u : World) : Prop where
  pr : PR w a n cap ys q jnc u
  bx : Cur3 u hb (.slice a2 n2 cap2) (.int .i64 r) (.int .i64 knc)
  row : RowZ u a2 n2 cap2 hs
  lb : w.heap.size + 1 < hb
  x2 : ∀ x, a2 = some x → w.heap.size + 1 < x.block
theorem PH.call {w u v : World} {a : Option Addr} {n cap : Nat} {ys : List Int} {q : Nat} {jnc : Int} {hb : Nat} {a2 : Option Addr} {n2 cap2 : Nat} {hs : List Int} {r : Nat} {knc : Int} (h : PH w a n cap ys q jnc hb a2 n2 cap2 hs r knc u) (hv : Below u.heap.size u v) : PH w a n cap ys q jnc hb a2 n2 cap2 hs r knc v :=
  ⟨h.pr.call hv, h.bx.below hv, h.row.under hv, h.lb, h.x2⟩
end Go.Proofs.Ytombgfpheiopgaa

namespace Go.Proofs.Ytombgfpheiopgaa
open Go.RowKit
set_option linter.unusedSimpArgs false
set_option linter.unusedVariables false

/-- What Of hands back. -/
def GivesCof (ys : List Int) (q : Nat) (jnc : Int) (w : World) (e : Ending) (w' : World) : Prop :=
  Below w.heap.size w w' ∧ ((∃ (a : Option Addr) (n cap : Nat) (hs : List Int) (r : Nat) (knc : Int),
    e = .returned (.tuple #[curV a n cap r knc, .int .i64 0]) ∧ RowZ w' a n cap hs ∧ EForm hs r knc (eClo ys q jnc) ∧ ys.length ≤ 60 ∧ comL q hs r ≤ 120 ∧ ∀ x, a = some x → w.heap.size ≤ x.block) ∨
    (e = .returned (.tuple #[curV none 0 0 0 0, .int .i64 3]) ∧ ¬ CloCan ys q jnc))
theorem GivesCof.post {ys : List Int} {q : Nat} {jnc : Int} {w w1 w2 : World} {b : Nat} {a : Option Addr} {n cap : Nat} {hs : List Int} {r : Nat} {knc : Int} (hB : Below w.heap.size w w1) (hb1 : w.heap.size ≤ b) (hb2 : b < w1.heap.size) (h2 : Below w1.heap.size w1 w2) (hr : RowZ w2 a n cap hs) (hx : ∀ x, a = some x → w1.heap.size ≤ x.block) (hf : EForm hs r knc (eClo ys q jnc)) (h60 : ys.length ≤ 60) (hL : comL q hs r ≤ 120) :
    GivesCof ys q jnc w (.returned (.tuple #[curV a n cap r knc, .int .i64 0])) (((w2.setCell ⟨b, 0, none⟩ (.slice a n cap)).setCell ⟨b, 1, none⟩ (.int .i64 r)).setCell ⟨b, 2, none⟩ (.int .i64 knc)) := by
  have hne : ∀ x : Addr, a = some x → 1 ≤ n → x.block ≠ b := fun x h _ => by have := hx x h; omega
  exact ⟨below_set3 (hB.trans (h2.mono hB.size)) hb1 _ _ _, .inl ⟨a, n, cap, hs, r, knc, rfl, ((hr.store hne _ _).store hne _ _).store hne _ _, hf, h60, hL, fun x h => by have := hx x h; have := hB.size; omega⟩⟩

/-- The curve's box and the result's. -/
structure OF (w : World) (a : Option Addr) (n cap : Nat) (zs : List Int) (p : Nat) (inc : Int) (u : World) : Prop where
  fb : Cur3 u w.heap.size (.slice a n cap) (.int .i64 p) (.int .i64 inc)
  res : Cur3 u (w.heap.size + 1) (.slice none 0 0) (.int .i64 0) (.int .i64 0)
  row : RowZ u a n cap zs
  below : Below w.heap.size w u
  sz : w.heap.size + 1 < u.heap.size
theorem OF.call {w u v : World} {a : Option Addr} {n cap : Nat} {zs : List Int} {p : Nat} {inc : Int} (h : OF w a n cap zs p inc u) (hb : Below u.heap.size u v) : OF w a n cap zs p inc v :=
  ⟨h.fb.below hb, h.res.below hb, h.row.under hb, h.below.trans (hb.mono h.below.size), Nat.lt_of_lt_of_le h.sz hb.size⟩

set_option maxRecDepth 100000 in
set_option maxHeartbeats 3200000 in
theorem csub_ok (a : Option Addr) (n cap : Nat) (zs : List Int) (p : Nat) (inc : Int) (g : Good zs p inc) (b : Bool) (hb : b = true ↔ SubA (eC zs p inc)) (w : World) (h : RowZ w a n cap zs) :
    Calls Try.prog 88 #[curV a n cap p inc] w (Says (.tuple #[.bool b, .int .i64 0]) w) := by
  have G0 := Lib.hid g
  have HB := Lib.hid hb
  obtain ⟨W, hW⟩ : ∃ W, w.alloc (.cells #[.slice a n cap, .int .i64 p, .int .i64 inc] 24) = W := ⟨_, rfl⟩
  have hB : Below w.heap.size w W := by rw [← hW]; exact (Below.refl _ _).alloc (Nat.le_refl _) _
  have FB := Lib.hid (show Cur3 W w.heap.size (.slice a n cap) (.int .i64 p) (.int .i64 inc) from by rw [← hW]; exact Cur3.new w _ _ _ _)
  have RW := Lib.hid (h.under hB)
  have HBL := Lib.hid hB
  have HW := Lib.hid hW
  obtain ⟨c0, c1, c2, f0, f1, f2⟩ := FB.out
  clear g h hb hB hW
  go_enter Try.func88, Try.ntmps88
  go_upto_region 1 with fail
  try rw [HW.out]
  go_wp2_with fail
  refine (normal_ok a n cap zs p inc G0.out _ RW.out).mono ?_
  rintro e w1 ⟨a3, n3, cap3, x1, r1, k1, rfl, hb, hr, hnn, hx⟩
  have GX := Lib.hid (hnn.good G0.out)
  have HB2 := Lib.hid (show b = true ↔ SubA (eC x1 r1 k1) from by rw [funext (hnn.eform G0.out).2.1]; exact HB.out)
  obtain ⟨W1, hW1⟩ : ∃ W', (((w1.setCell ⟨w.heap.size, 0, none⟩ (.slice a3 n3 cap3)).setCell ⟨w.heap.size, 1, none⟩ (.int .i64 r1)).setCell ⟨w.heap.size, 2, none⟩ (.int .i64 k1)) = W' := ⟨_, rfl⟩
  have F1 := Lib.hid (show Cur3 W1 w.heap.size (.slice a3 n3 cap3) (.int .i64 r1) (.int .i64 k1) from by rw [← hW1]; exact (FB.out.below hb).set _ _ _)
  have R1 := Lib.hid (show RowZ W1 a3 n3 cap3 x1 from by
    have q : ∀ x, a3 = some x → 1 ≤ n3 → x.block ≠ w.heap.size := fun x h _ => by have := hx x h; have := FB.out.lt; omega
    rw [← hW1]; exact ((hr.store q _ _).store q _ _).store q _ _)
  have BL1 := Lib.hid (show Below w.heap.size w W1 from by rw [← hW1]; exact below_set3 (HBL.out.trans (hb.mono HBL.out.size)) (Nat.le_refl _) _ _ _)
  have HW1 := Lib.hid hW1
  clear c0 c1 c2 f0 f1 f2
  obtain ⟨c0, c1, c2, f0, f1, f2⟩ := FB.out.below hb
  clear hb hr hnn hx hW1
  go_upto_region 2 with fail
  try rw [HW1.out]
  clear c0 c1 c2 f0 f1 f2
  obtain ⟨c0, c1, c2, f0, f1, f2⟩ := F1.out
  go_wp2_with fail
  refine (subadd_any a3 n3 cap3 x1 r1 k1 GX.out b HB2.out _ R1.out).mono ?_
  rintro e w2 ⟨rfl, hb⟩
  have BL2 := Lib.hid (BL1.out.trans (hb.mono BL1.out.size))
  clear hb c0 c1 c2 f0 f1 f2
  go_wp2_with fail
  exact bodyPost_ret (v := .tuple #[.bool b, .int .i64 0]) (by simp [results, Try.results88, go_sem]) rfl ⟨rfl, BL2.out⟩


/-- What is told of a result whose error is c. -/
def CY (ys : List Int) (q : Nat) (jnc : Int) (zs : List Int) (p inc c : Int) : Prop :=
  (c = 0 ∧ ∃ r : Nat, p = r ∧ EForm zs r inc (eClo ys q jnc)) ∨ (c = 3 ∧ zs = [] ∧ p = 0 ∧ inc = 0 ∧ ¬ CloCan ys q jnc)
theorem GivesCof.y {ys : List Int} {q : Nat} {jnc : Int} {w w' : World} {e : Ending} (h : GivesCof ys q jnc w e w') : ∃ (a : Option Addr) (n cap : Nat) (zs : List Int) (p inc c : Int), e = .returned (.tuple #[curV a n cap p inc, .int .i64 c]) ∧ Below w.heap.size w w' ∧ RowZ w' a n cap zs ∧ CY ys q jnc zs p inc c ∧ ∀ x, a = some x → w.heap.size ≤ x.block := by
  obtain ⟨hb, ⟨a, n, cap, hs, r, knc, he, hr, hf, _, _, hx⟩ | ⟨he, hno⟩⟩ := h
  · exact ⟨a, n, cap, hs, r, knc, 0, he, hb, hr, .inl ⟨rfl, r, rfl, hf⟩, hx⟩
  · exact ⟨none, 0, 0, [], 0, 0, 3, he, hb, ⟨rfl, Nat.le_refl _, Nat.zero_le _, by omega, fun i hi => absurd hi (Nat.not_lt_zero _), fun i hi => absurd hi (Nat.not_lt_zero _)⟩, .inr ⟨rfl, rfl, rfl, rfl, hno⟩, fun x hx => by cases hx⟩
end Go.Proofs.Ytombgfpheiopgaa
