/- Prove and Of of the closure. By the verifier's side. -/
import Derived.Test.YtjjaaknjdmijbaaQdCloD
import Derived.Test.YtjjaaknjdmijbaaQdOrdAS
namespace Go.Proofs.Ytjjaaknjdmijbaa
open Go.RowKit
set_option linter.unusedSimpArgs false
set_option linter.unusedVariables false

theorem ole_of_d {zs ys : List Int} {p q : Nat} {inc jnc : Int} (g : Good zs p inc) (k : Good ys q jnc) (h : ∀ t, dC zs p inc ys q jnc t ≤ 0) (t : Nat) : ole (eC zs p inc t) (eC ys q jnc t) := by
  intro y hy
  have h1 := h t
  unfold dC at h1
  have k1 : ¬ (InfC ys ∧ atC ys q jnc t = infV) := fun h => by rw [eC_none.2 h] at hy; cases hy
  have k2 := (eC_bd k hy).2.2
  by_cases hn : InfC zs ∧ atC zs p inc t = infV
  · rw [if_pos hn, if_neg k1] at h1; omega
  · rw [if_neg hn, if_neg k1] at h1
    cases hx : eC zs p inc t with
    | none => exact absurd (eC_none.1 hx) hn
    | some x => exact ⟨x, rfl, by have := (eC_bd g hx).2.2; omega⟩
theorem atMost_says (a1 : Option Addr) (n1 cap1 : Nat) (z1 : List Int) (p1 : Nat) (i1 : Int) (g1 : Good z1 p1 i1) (a2 : Option Addr) (n2 cap2 : Nat) (z2 : List Int) (p2 : Nat) (i2 : Int) (g2 : Good z2 p2 i2) (b : Bool) (hb : b = true ↔ ∀ t, ole (eC z1 p1 i1 t) (eC z2 p2 i2 t)) (w : World) (h1 : RowZ w a1 n1 cap1 z1) (h2 : RowZ w a2 n2 cap2 z2) :
    Calls Try.prog 110 #[curV a1 n1 cap1 p1 i1, curV a2 n2 cap2 p2 i2] w (Says (.bool b) w) := by
  obtain ⟨t, ok, hE⟩ := excP_ex (dC z1 p1 i1 z2 p2 i2)
  have e : (!ok) = b := by
    cases b with
    | true => rw [(hE.unique (excP_of (hb.1 rfl))).2]; rfl
    | false =>
      cases ok with
      | true => rfl
      | false =>
        rcases hE with ⟨h, _⟩ | ⟨_, _, h⟩
        · cases h
        · exact absurd (hb.2 (ole_of_d g1 g2 h)) (by decide)
  rw [← e]
  exact atMost_ok a1 n1 cap1 z1 p1 i1 g1 a2 n2 cap2 z2 p2 i2 g2 t ok w h1 h2 hE

theorem norm_twice {zs zs' : List Int} {p p' : Nat} {inc inc' : Int} (h : NormC zs p inc zs' p' inc') (g : Good zs p inc) : NormC zs' p' inc' zs' p' inc' := by
  obtain ⟨s, _, hn⟩ := norm_self (h.eform g)
  exact hn
theorem RowF.listZ {w : World} {lb N : Nat} {F : Nat → Int} (h : RowF w lb N F) (hN : N ≤ 100000) (hb : ∀ i, i < N → In64 (F i)) : RowZ w (some ⟨lb, 0, none⟩) N N (firsts F N) :=
  ⟨firsts_length _ _, Nat.le_refl _, by omega, by omega, fun i hi => ⟨_, rfl, by
    have := (h.cell i (by omega)).1
    rw [firsts_getD _ _ _ hi, show ((⟨lb, 0, none⟩ : Addr).add i) = ⟨lb, i, none⟩ by unfold Addr.add; split <;> simp_all]
    exact this⟩, fun i hi => by rw [firsts_getD _ _ _ hi]; exact hb i hi⟩
/-- Block b holds a certificate, and may be written. -/
structure P5 (w : World) (b : Nat) (x0 x1 x2 x3 x4 : Value) : Prop where
  lo : Cur3 w b x0 x1 x2
  c3 : w.cell? ⟨b, 3, none⟩ = some x3
  c4 : w.cell? ⟨b, 4, none⟩ = some x4
  f3 : w.frozen? ⟨b, 3, none⟩ = false
  f4 : w.frozen? ⟨b, 4, none⟩ = false
section
variable {w w' : World} {b : Nat} {x0 x1 x2 x3 x4 : Value}
theorem P5.lt (h : P5 w b x0 x1 x2 x3 x4) : b < w.heap.size := h.lo.lt
theorem P5.below (h : P5 w b x0 x1 x2 x3 x4) (hb : Below w.heap.size w w') : P5 w' b x0 x1 x2 x3 x4 :=
  ⟨h.lo.below hb, (hb.cell (p := ⟨b, 3, none⟩) h.lt).trans h.c3, (hb.cell (p := ⟨b, 4, none⟩) h.lt).trans h.c4, (hb.frozen (p := ⟨b, 3, none⟩) h.lt).trans h.f3, (hb.frozen (p := ⟨b, 4, none⟩) h.lt).trans h.f4⟩
theorem P5.other (h : P5 w b x0 x1 x2 x3 x4) {q : Nat} (hq : ¬ b = q) (i : Nat) (v : Value) : P5 (w.setCell ⟨q, i, none⟩ v) b x0 x1 x2 x3 x4 := by
  have hb : (w.setCell ⟨q, i, none⟩ v).heap[b]? = w.heap[b]? := Below.heap_setCell _ _ _ _ hq
  exact ⟨h.lo.other hq i v, (World.cell?_of_block (w := w) (a := ⟨b, 3, none⟩) hb).trans h.c3, (World.cell?_of_block (w := w) (a := ⟨b, 4, none⟩) hb).trans h.c4, (World.frozen?_of_block (w := w) (a := ⟨b, 3, none⟩) hb).trans h.f3, (World.frozen?_of_block (w := w) (a := ⟨b, 4, none⟩) hb).trans h.f4⟩
theorem p5_new (w : World) (x0 x1 x2 x3 x4 : Value) (t : TypeId) : P5 (w.alloc (.cells #[x0, x1, x2, x3, x4] t)) w.heap.size x0 x1 x2 x3 x4 :=
  ⟨⟨by go_simp, by go_simp, by go_simp, by go_simp, by go_simp, by go_simp⟩, by go_simp, by go_simp, by go_simp, by go_simp⟩
theorem below_set5 {B : Nat} {u : World} (h : Below B u w) (hb : B ≤ b) (y0 y1 y2 y3 y4 : Value) : Below B u (((((w.setCell ⟨b, 0, none⟩ y0).setCell ⟨b, 1, none⟩ y1).setCell ⟨b, 2, none⟩ y2).setCell ⟨b, 3, none⟩ y3).setCell ⟨b, 4, none⟩ y4) := by
  have e : ∀ i, B ≤ (⟨b, i, none⟩ : Addr).block := fun i => hb
  exact ((((h.setCell (e 0) _).setCell (e 1) _).setCell (e 2) _).setCell (e 3) _).setCell (e 4) _
end

abbrev partsV (a : Option Addr) (n cap r : Nat) (knc : Int) (fr : Nat) (at1 : Option Addr) (m mc : Nat) : Value := .agg #[.slice a n cap, .int .i64 r, .int .i64 knc, .int .i64 fr, .slice at1 m mc]
abbrev parts0 : Value := .agg #[.slice none 0 0, .int .i64 0, .int .i64 0, .int .i64 0, .slice none 0 0]
/-- The least parts of a closure. -/
noncomputable def partsL (ys : List Int) (q : Nat) (jnc : Int) (hs : List Int) (r : Nat) (knc : Int) (t : Nat) : Int := ((leastA (fun s => CAtt ys q jnc hs r knc (horC ys q hs r (comL q hs r)) s t) t 0 : Nat) : Int)
/-- A certificate of the closure with the least parts. -/
structure CloIs (ys : List Int) (q : Nat) (jnc : Int) (hs : List Int) (r : Nat) (knc : Int) (ts : List Int) : Prop where
  form : EForm hs r knc (eClo ys q jnc)
  few : ys.length ≤ 60
  l : comL q hs r ≤ 120
  ts : ts = firsts (partsL ys q jnc hs r knc) (horC ys q hs r (comL q hs r) + comL q hs r)
/-- What Prove hands back. -/
def GivesClo (ys : List Int) (q : Nat) (jnc : Int) (w : World) (e : Ending) (w' : World) : Prop :=
  Below w.heap.size w w' ∧ ((∃ (a : Option Addr) (n cap : Nat) (hs : List Int) (r : Nat) (knc : Int) (at1 : Option Addr) (m mc : Nat) (ts : List Int),
    e = .returned (.tuple #[partsV a n cap r knc (horC ys q hs r (comL q hs r)) at1 m mc, .int .i64 0]) ∧ RowZ w' a n cap hs ∧ RowZ w' at1 m mc ts ∧ CloIs ys q jnc hs r knc ts ∧ (∀ x, a = some x → w.heap.size ≤ x.block) ∧ ∀ x, at1 = some x → w.heap.size ≤ x.block) ∨
    (e = .returned (.tuple #[parts0, .int .i64 3]) ∧ ¬ CloCan ys q jnc))

/-- While the closure is proved: the curve in normal form in its box, the result. -/
structure PR (w : World) (a : Option Addr) (n cap : Nat) (ys : List Int) (q : Nat) (jnc : Int) (u : World) : Prop where
  fb : Cur3 u w.heap.size (.slice a n cap) (.int .i64 q) (.int .i64 jnc)
  res : P5 u (w.heap.size + 1) (.slice none 0 0) (.int .i64 0) (.int .i64 0) (.int .i64 0) (.slice none 0 0)
  row : RowZ u a n cap ys
  below : Below w.heap.size w u
  sz : w.heap.size + 1 < u.heap.size
theorem PR.call {w u v : World} {a : Option Addr} {n cap : Nat} {ys : List Int} {q : Nat} {jnc : Int} (h : PR w a n cap ys q jnc u) (hb : Below u.heap.size u v) : PR w a n cap ys q jnc v :=
  ⟨h.fb.below hb, h.res.below hb, h.row.under hb, h.below.trans (hb.mono h.below.size), Nat.lt_of_lt_of_le h.sz hb.size⟩
theorem PR.lose {w u : World} {a : Option Addr} {n cap : Nat} {ys : List Int} {q : Nat} {jnc : Int} (h : PR w a n cap ys q jnc u) : Below w.heap.size w (((((u.setCell ⟨w.heap.size + 1, 0, none⟩ (.slice none 0 0)).setCell ⟨w.heap.size + 1, 1, none⟩ (.int .i64 0)).setCell ⟨w.heap.size + 1, 2, none⟩ (.int .i64 0)).setCell ⟨w.heap.size + 1, 3, none⟩ (.int .i64 0)).setCell ⟨w.heap.size + 1, 4, none⟩ (.slice none 0 0)) := below_set5 h.below (by omega) _ _ _ _ _

/-- And the curve that may be the closure, in a box. -/
structure PH (w : World) (a : Option Addr) (n cap : Nat) (ys : List Int) (q : Nat) (jnc : Int) (hb : Nat) (a2 : Option Addr) (n2 cap2 : Nat) (hs : List Int) (r : Nat) (knc : Int) (u : World) : Prop where
  pr : PR w a n cap ys q jnc u
  bx : Cur3 u hb (.slice a2 n2 cap2) (.int .i64 r) (.int .i64 knc)
  row : RowZ u a2 n2 cap2 hs
  lb : w.heap.size + 1 < hb
  x2 : ∀ x, a2 = some x → w.heap.size + 1 < x.block
theorem PH.call {w u v : World} {a : Option Addr} {n cap : Nat} {ys : List Int} {q : Nat} {jnc : Int} {hb : Nat} {a2 : Option Addr} {n2 cap2 : Nat} {hs : List Int} {r : Nat} {knc : Int} (h : PH w a n cap ys q jnc hb a2 n2 cap2 hs r knc u) (hv : Below u.heap.size u v) : PH w a n cap ys q jnc hb a2 n2 cap2 hs r knc v :=
  ⟨h.pr.call hv, h.bx.below hv, h.row.under hv, h.lb, h.x2⟩
abbrev PHS (w : World) (a : Option Addr) (n cap : Nat) (ys : List Int) (q : Nat) (jnc : Int) (hb : Nat) (a2 : Option Addr) (n2 cap2 : Nat) (hs : List Int) (r : Nat) (knc : Int) (pb : Nat) (P : QV) (u : World) : Prop :=
  u.cell? ⟨hb, 0, none⟩ = some (.slice a2 n2 cap2) ∧ u.cell? ⟨hb, 1, none⟩ = some (.int .i64 r) ∧ u.cell? ⟨hb, 2, none⟩ = some (.int .i64 knc) ∧ u.cell? ⟨pb, 0, none⟩ = some (closPV P.A) ∧ u.cell? ⟨pb, 1, none⟩ = some (closPV P.B) ∧ u.cell? ⟨pb, 2, none⟩ = some (.int .i64 P.S) ∧ u.cell? ⟨pb, 3, none⟩ = some (.int .i64 P.L) ∧ u.cell? ⟨pb, 4, none⟩ = some (.int .i64 P.R) ∧ u.cell? ⟨pb, 5, none⟩ = some (.bool P.al) ∧ Hid (PH w a n cap ys q jnc hb a2 n2 cap2 hs r knc u) ∧ Hid (P6B u pb P)
theorem phs_of {w u : World} {a : Option Addr} {n cap : Nat} {ys : List Int} {q : Nat} {jnc : Int} {hb : Nat} {a2 : Option Addr} {n2 cap2 : Nat} {hs : List Int} {r : Nat} {knc : Int} {pb : Nat} {P : QV} (h : PH w a n cap ys q jnc hb a2 n2 cap2 hs r knc u) (k : P6B u pb P) : PHS w a n cap ys q jnc hb a2 n2 cap2 hs r knc pb P u :=
  ⟨h.bx.c0, h.bx.c1, h.bx.c2, k.lo.c0, k.lo.c1, k.lo.c2, k.c3, k.c4, k.c5, h, k⟩
/-- The certificate is stored. -/
theorem PH.done {w u : World} {a : Option Addr} {n cap : Nat} {ys : List Int} {q : Nat} {jnc : Int} {hb : Nat} {a2 : Option Addr} {n2 cap2 : Nat} {hs : List Int} {r : Nat} {knc : Int} (h : PH w a n cap ys q jnc hb a2 n2 cap2 hs r knc u) {lb N : Nat} (hlb : w.heap.size + 1 < lb) (hN : N ≤ 100000) (hN1 : N = horC ys q hs r (comL q hs r) + comL q hs r)
    (hl : RowF u lb N (partsL ys q jnc hs r knc)) (hin : ∀ i, i < N → In64 (partsL ys q jnc hs r knc i)) (hf : EForm hs r knc (eClo ys q jnc)) (h60 : ys.length ≤ 60) (hL : comL q hs r ≤ 120) :
    GivesClo ys q jnc w (.returned (.tuple #[partsV a2 n2 cap2 r knc (horC ys q hs r (comL q hs r)) (some ⟨lb, 0, none⟩) N N, .int .i64 0])) (((((u.setCell ⟨w.heap.size + 1, 0, none⟩ (.slice a2 n2 cap2)).setCell ⟨w.heap.size + 1, 1, none⟩ (.int .i64 r)).setCell ⟨w.heap.size + 1, 2, none⟩ (.int .i64 knc)).setCell ⟨w.heap.size + 1, 3, none⟩ (.int .i64 (horC ys q hs r (comL q hs r) : Nat))).setCell ⟨w.heap.size + 1, 4, none⟩ (.slice (some ⟨lb, 0, none⟩) N N)) := by
  have q2 : ∀ x, a2 = some x → 1 ≤ n2 → x.block ≠ w.heap.size + 1 := fun x hx _ => by have := h.x2 x hx; omega
  have q3 : ∀ x : Addr, (some ⟨lb, 0, none⟩ : Option Addr) = some x → 1 ≤ N → x.block ≠ w.heap.size + 1 := fun x hx _ => by cases hx; show lb ≠ w.heap.size + 1; omega
  have hr := hl.listZ hN hin
  refine ⟨below_set5 h.pr.below (by omega) _ _ _ _ _, .inl ⟨a2, n2, cap2, hs, r, knc, _, N, N, _, rfl, ((((h.row.store q2 _ _).store q2 _ _).store q2 _ _).store q2 _ _).store q2 _ _, ((((hr.store q3 _ _).store q3 _ _).store q3 _ _).store q3 _ _).store q3 _ _, ⟨hf, h60, hL, by rw [hN1]⟩, fun x hx => by have := h.x2 x hx; omega, fun x hx => by cases hx; show w.heap.size ≤ lb; omega⟩⟩

set_option maxRecDepth 100000 in
set_option maxHeartbeats 6400000 in
theorem cprove_any (a : Option Addr) (n cap : Nat) (zs : List Int) (p : Nat) (inc : Int) (g : Good zs p inc) {ys : List Int} {q : Nat} {jnc : Int} (hn : NormC zs p inc ys q jnc) (w : World) (h : RowZ w a n cap zs) :
    Calls Try.prog 44 #[curV a n cap p inc] w (GivesClo ys q jnc w) := by
  have G0 := Lib.hid g
  have HN := Lib.hid hn
  have GY := Lib.hid (hn.good g)
  have NY := Lib.hid (norm_twice hn g)
  obtain ⟨W, hW⟩ : ∃ W, (w.alloc (.cells #[.slice a n cap, .int .i64 p, .int .i64 inc] 24)).alloc (.cells #[.slice none 0 0, .int .i64 0, .int .i64 0, .int .i64 0, .slice none 0 0] 59) = W := ⟨_, rfl⟩
  have hB : Below w.heap.size w W := by rw [← hW]; exact ((Below.refl _ _).alloc (Nat.le_refl _) _).alloc (by simp) _
  have T0 := Lib.hid (show PR w a n cap zs p inc W from ⟨by rw [← hW]; exact (Cur3.new w _ _ _ _).alloc _, by
    rw [← hW]
    have := p5_new (w.alloc (.cells #[.slice a n cap, .int .i64 p, .int .i64 inc] 24)) (.slice none 0 0) (.int .i64 0) (.int .i64 0) (.int .i64 0) (.slice none 0 0) 59
    rwa [show (w.alloc (.cells #[.slice a n cap, .int .i64 p, .int .i64 inc] 24)).heap.size = w.heap.size + 1 by simp] at this, h.under hB, hB, by rw [← hW]; simp⟩)
  have HW := Lib.hid hW
  obtain ⟨c0, c1, c2, f0, f1, f2⟩ := T0.out.fb
  clear g hn h hB hW
  go_enter Try.func44, Try.ntmps44
  go_wp2_with fail
  try rw [HW.out]
  refine (normal_ok a n cap zs p inc G0.out _ T0.out.row).mono ?_
  rintro e w1 ⟨a3, n3, cap3, x1, r1, k1, rfl, hb, hr, hnn, hx⟩
  obtain ⟨rfl, rfl, rfl⟩ := hnn.canon G0.out G0.out HN.out (fun _ => rfl)
  obtain ⟨W1, hW1⟩ : ∃ W', (((w1.setCell ⟨w.heap.size, 0, none⟩ (.slice a3 n3 cap3)).setCell ⟨w.heap.size, 1, none⟩ (.int .i64 r1)).setCell ⟨w.heap.size, 2, none⟩ (.int .i64 k1)) = W' := ⟨_, rfl⟩
  have T1 := Lib.hid (show PR w a3 n3 cap3 x1 r1 k1 W1 from by
    have h1 := T0.out.call hb
    have q : ∀ x, a3 = some x → 1 ≤ n3 → x.block ≠ w.heap.size := fun x h _ => by have := hx x h; have := T0.out.sz; omega
    rw [← hW1]
    exact ⟨h1.fb.set _ _ _, ((h1.res.other (by omega) _ _).other (by omega) _ _).other (by omega) _ _, ((hr.store q _ _).store q _ _).store q _ _, below_set3 h1.below (Nat.le_refl _) _ _ _, by simpa using h1.sz⟩)
  have HW1 := Lib.hid hW1
  clear c0 c1 c2 f0 f1 f2
  obtain ⟨c0, c1, c2, f0, f1, f2⟩ := T0.out.fb.below hb
  clear hb hr hx hW1 hnn
  go_upto_region 2 with fail
  try rw [HW1.out]
  clear c0 c1 c2 f0 f1 f2 T0 HW HW1
  obtain ⟨c0, c1, c2, f0, f1, f2⟩ := T1.out.fb
  obtain ⟨⟨r0, r1', r2, s0, s1, s2⟩, r3, r4, s3, s4⟩ := T1.out.res
  have hlen : x1.length = n3 := T1.out.row.len
  by_cases h60 : n3 ≤ 60
  · have h60i : ¬ (60 : Int) < (n3 : Int) := by omega
    go_wp2_with fail
    refine (closed_any a3 n3 cap3 x1 r1 k1 GY.out _ T1.out.row).mono ?_
    rintro e w2 ⟨lb, rfl, hb, hl1, hl2⟩
    have T2 := Lib.hid (T1.out.call hb)
    have R2 := Lib.hid hl2
    clear hb hl1 hl2 c0 c1 c2 f0 f1 f2 r0 r1' r2 s0 s1 s2 r3 r4 s3 s4
    go_wp2_with fail
    refine (fitting_any lb x1 r1 k1 GY.out _ R2.out).mono ?_
    rintro e w3 (⟨pp, hp1, hp2, hfit, hleast, hbe⟩ | ⟨rfl, hb, hno⟩)
    · rcases hbe with ⟨hb, ⟨a5, n5, cap5, hs, rr, knc, rfl, hr5, hf5, hx5⟩ | ⟨rfl, hnc⟩⟩
      · -- there is a curve
        have HF := Lib.hid (And.intro hfit hf5)
        have HLE := Lib.hid hleast
        have hbx := qbox_below w3 (.cells #[.slice a5 n5 cap5, .int .i64 rr, .int .i64 knc] 24)
        obtain ⟨W4, hW4⟩ : ∃ W', w3.alloc (.cells #[.slice a5 n5 cap5, .int .i64 rr, .int .i64 knc] 24) = W' := ⟨_, rfl⟩
        have T4 := Lib.hid (show PH w a3 n3 cap3 x1 r1 k1 w3.heap.size a5 n5 cap5 hs rr knc W4 from by
          rw [← hW4]
          exact ⟨(T2.out.call hb).call hbx, Cur3.new w3 _ _ _ _, hr5.under hbx, (T2.out.call hb).sz, fun x hx => by have := hx5 x hx; have := T2.out.sz; omega⟩)
        have HW4 := Lib.hid hW4
        clear hb hr5 hf5 hx5 hbx hW4 hfit hleast
        go_upto_region 7 with fail
        try rw [HW4.out]
        clear HW4
        obtain ⟨hbk, hhb⟩ : ∃ k, w3.heap.size = k := ⟨_, rfl⟩
        rw [hhb] at T4
        try rw [hhb]
        clear hhb
        obtain ⟨c0, c1, c2, f0, f1, f2⟩ := T4.out.pr.fb
        obtain ⟨d0, d1, d2, g0, g1, g2⟩ := T4.out.bx
        have KG := Lib.hid HF.out.2.1
        have KN := Lib.hid (show NormC hs rr knc hs rr knc from by obtain ⟨_, _, h⟩ := norm_self HF.out.2; exact h)
        go_wp2_with fail
        refine (qpaired_ok a3 n3 cap3 x1 r1 k1 a5 n5 cap5 hs rr knc GY.out NY.out KG.out KN.out _ T4.out.pr.row T4.out.row).mono ?_
        rintro e w5 ⟨P, rfl, hb, hqs, hqn, rfl, rfl, rfl, rfl⟩
        have hbx := qbox_below w5 (cpO P)
        obtain ⟨W6, hW6⟩ : ∃ W', w5.alloc (cpO P) = W' := ⟨_, rfl⟩
        obtain ⟨hz, pb0, _⟩ := qpair_box hW6
        have T6 := Lib.hid ((T4.out.call hb).call hz)
        have P6' := Lib.hid pb0
        have QS := Lib.hid hqs
        have QN := Lib.hid (hqn.under hz)
        have HW6 := Lib.hid hW6
        clear hb hbx hW6 hz pb0 hqs hqn c0 c1 c2 f0 f1 f2 d0 d1 d2 g0 g1 g2
        go_upto_region 10 with fail
        try rw [HW6.out]
        clear HW6
        obtain ⟨pbk, hpb⟩ : ∃ k, w5.heap.size = k := ⟨_, rfl⟩
        rw [hpb] at P6'
        try rw [hpb]
        clear hpb
        obtain ⟨⟨e0, e1, e2, i0, i1, i2⟩, e3, e4, e5, i3, i4, i5⟩ := P6'.out
        by_cases h120 : P.L ≤ 120
        · have h120i : ¬ (120 : Int) < (P.L : Int) := by omega
          have h120d : decide ((120 : Int) < (P.L : Int)) = false := decide_eq_false h120i
          have h120n : ¬ 120 < P.L := by omega
          have h120e : decide (120 < P.L) = false := decide_eq_false h120n
          obtain ⟨c0, c1, c2, f0, f1, f2⟩ := T6.out.pr.fb
          obtain ⟨d0, d1, d2, g0, g1, g2⟩ := T6.out.bx
          have HL1 := Lib.hid (show comL P.q hs P.r ≤ 120 by rw [← QS.out.l]; exact h120)
          by_cases hat : ∀ t, ole (eC hs P.r P.k t) (eC x1 P.q P.j t)
          · have HAT := Lib.hid hat
            have HCF := Lib.hid (clox_is GY.out hp1 hp2 HF.out.1 HF.out.2 hat HL1.out)
            clear hat
            go_wp2_with fail
            refine (atMost_says a5 n5 cap5 hs P.r P.k KG.out a3 n3 cap3 x1 P.q P.j GY.out true ⟨fun _ => HAT.out, fun _ => rfl⟩ _ T6.out.row T6.out.pr.row).mono ?_
            rintro e w7 ⟨rfl, hb⟩
            have T7 := Lib.hid (T6.out.call hb)
            have P7 := Lib.hid (P6'.out.below hb)
            have QN7 := Lib.hid (QN.out.under hb)
            clear hb c0 c1 c2 f0 f1 f2 d0 d1 d2 g0 g1 g2 e0 e1 e2 i0 i1 i2 e3 e4 e5 i3 i4 i5
            go_upto_region 12 with fail
            have hbig := QS.out.big
            have T8 := Lib.hid (T7.out.call (Below.refl _ _).drew)
            have P8 := Lib.hid (P7.out.below (Below.refl _ _).drew)
            have QN8 := Lib.hid (QN7.out.under (Below.refl _ _).drew)
            refine wp_region_keeps (fun u => PHS w a3 n3 cap3 x1 P.q P.j hbk a5 n5 cap5 hs P.r P.k pbk P u) 6 2 (by kernel_rfl) (by kernel_rfl) (phs_of T8.out P8.out) (fun hHeld0 => ?_)
            refine wpAnyK_take (i := 0) (v := ?_) rfl (by kernel_rfl) (fun _ _ _ h => h) (Or.inl ⟨by rfl, ?_⟩) (by assumption) ?_
            rotate_left
            · (intro w hSw; (try dsimp only at hSw); go_simp; try with_reducible rfl)
            try simp only [Act.put, List.getElem_toArray, List.getElem_cons_zero, List.getElem_cons_succ, List.setIfInBounds_toArray, List.set_cons_zero, List.set_cons_succ]
            refine wpAnyK_take (i := 1) (v := ?_) rfl (by kernel_rfl) (fun _ _ _ h => h) (Or.inl ⟨by rfl, ?_⟩) (by assumption) ?_
            rotate_left
            · (intro w hSw; (try dsimp only at hSw); go_simp; try with_reducible rfl)
            try simp only [Act.put, List.getElem_toArray, List.getElem_cons_zero, List.getElem_cons_succ, List.setIfInBounds_toArray, List.set_cons_zero, List.set_cons_succ]
            refine wpAnyK_take (i := 2) (v := ?_) rfl (by kernel_rfl) (fun _ _ _ h => h) (Or.inl ⟨by rfl, ?_⟩) (by assumption) ?_
            rotate_left
            · (intro w hSw; (try dsimp only at hSw); go_simp; try with_reducible rfl)
            try simp only [Act.put, List.getElem_toArray, List.getElem_cons_zero, List.getElem_cons_succ, List.setIfInBounds_toArray, List.set_cons_zero, List.set_cons_succ]
            refine wpAnyK_take (i := 3) (v := ?_) rfl (by kernel_rfl) (fun _ _ _ h => h) (Or.inl ⟨by rfl, ?_⟩) (by assumption) ?_
            rotate_left
            · (intro w hSw; (try dsimp only at hSw); go_simp; try with_reducible rfl)
            try simp only [Act.put, List.getElem_toArray, List.getElem_cons_zero, List.getElem_cons_succ, List.setIfInBounds_toArray, List.set_cons_zero, List.set_cons_succ]
            refine wpAnyK_step (i := 4) rfl (by kernel_rfl) (fun K hK => ?_)
            go_simp
            with_reducible refine (parts_any P x1 hs QS.out h120 (P.R + P.L) rfl _ QN8.out).mono ?_
            rintro e w9 ⟨lb9, rfl, hb9, hl9, hr9⟩
            have T9 := Lib.hid (T8.out.call hb9)
            have P9 := Lib.hid (P8.out.below hb9)
            have R9 := Lib.hid hr9
            have L9 := Lib.hid (show w.heap.size + 1 < lb9 by have := T8.out.pr.sz; simp at *; omega)
            refine hK.out _ _ (phs_of T9.out P9.out) (fun hHeld1 => ?_)
            clear hK K hHeld0 hb9 hl9 hr9
            try simp only [Act.put, List.getElem_toArray, List.getElem_cons_zero, List.getElem_cons_succ, List.setIfInBounds_toArray, List.set_cons_zero, List.set_cons_succ]
            refine wpAnyK_take (i := 5) (v := ?_) rfl (by kernel_rfl) (fun _ _ _ h => h) (Or.inl ⟨by rfl, ?_⟩) (by assumption) ?_
            rotate_left
            · (intro w hSw; (try dsimp only at hSw); go_simp; try with_reducible rfl)
            try simp only [Act.put, List.getElem_toArray, List.getElem_cons_zero, List.getElem_cons_succ, List.setIfInBounds_toArray, List.set_cons_zero, List.set_cons_succ]
            refine wpAnyK_done (by kernel_rfl) ?_
            simp only [List.drop_succ_cons, List.drop_zero]
            clear hHeld1
            have HRL := Lib.hid (show P.R = horC x1 P.q hs P.r (comL P.q hs P.r) ∧ P.L = comL P.q hs P.r from ⟨by rw [QS.out.r, QS.out.l], QS.out.l⟩)
            have HD := Lib.hid (show GivesClo x1 P.q P.j w (.returned (.tuple #[partsV a5 n5 cap5 P.r P.k P.R (some ⟨lb9, 0, none⟩) (P.R + P.L) (P.R + P.L), .int .i64 0])) (((((w9.setCell ⟨w.heap.size + 1, 0, none⟩ (.slice a5 n5 cap5)).setCell ⟨w.heap.size + 1, 1, none⟩ (.int .i64 P.r)).setCell ⟨w.heap.size + 1, 2, none⟩ (.int .i64 P.k)).setCell ⟨w.heap.size + 1, 3, none⟩ (.int .i64 P.R)).setCell ⟨w.heap.size + 1, 4, none⟩ (.slice (some ⟨lb9, 0, none⟩) (P.R + P.L) (P.R + P.L))) from by
              have h := T9.out.done (lb := lb9) (N := P.R + P.L) L9.out (by omega) (by rw [← HRL.out.1, ← HRL.out.2]) (R9.out.congr fun i hi => by unfold partsF partsL; rw [HRL.out.1]) (fun i hi => by
                unfold partsL
                have := (leastA_spec (P := fun s => CAtt x1 P.q P.j hs P.r P.k (horC x1 P.q hs P.r (comL P.q hs P.r)) s i) (n := i) (s := 0)).2.2.1
                exact ⟨by omega, by omega⟩) HCF.out (by omega) HL1.out
              rw [← HRL.out.1] at h
              exact h)
            obtain ⟨⟨r0, r1', r2, s0, s1, s2⟩, r3, r4, s3, s4⟩ := T9.out.pr.res
            go_wp2_with fail
            exact bodyPost_ret (v := .tuple #[partsV a5 n5 cap5 P.r P.k P.R (some ⟨lb9, 0, none⟩) (P.R + P.L) (P.R + P.L), .int .i64 0]) (by simp [results, Try.results44, go_sem, r0, r1', r2, r3, r4]) rfl HD.out
          · have HAT := Lib.hid hat
            have HNO := Lib.hid (show ¬ CloCan x1 P.q P.j from fun ⟨_, hs', r', k', hf', hl'⟩ => HAT.out fun t => by
              have hpr : pp ≤ r' := Nat.le_of_not_lt fun hl => HLE.out r' hf'.1.p1 hl (fits_of hf'.1 hf'.2.1)
              have e := clox_of GY.out hf'.1 hf'.2.1 hp1 hpr HF.out.1
              rw [HF.out.2.2.1 t, e]
              rcases Nat.eq_zero_or_pos t with rfl | ht
              · intro y hy; exact ⟨0, rfl, (eC_bd GY.out hy).1⟩
              · exact clo_le ht)
            clear hat
            go_wp2_with fail
            refine (atMost_says a5 n5 cap5 hs P.r P.k KG.out a3 n3 cap3 x1 P.q P.j GY.out false ⟨fun h => Bool.noConfusion h, fun h => absurd h HAT.out⟩ _ T6.out.row T6.out.pr.row).mono ?_
            rintro e w7 ⟨rfl, hb⟩
            have T7 := Lib.hid (T6.out.call hb)
            clear hb c0 c1 c2 f0 f1 f2 d0 d1 d2 g0 g1 g2 e0 e1 e2 i0 i1 i2 e3 e4 e5 i3 i4 i5
            obtain ⟨⟨r0, r1', r2, s0, s1, s2⟩, r3, r4, s3, s4⟩ := (T7.out.pr).res
            have LS := Lib.hid (T7.out.pr).lose
            go_wp2_with fail
            exact bodyPost_ret (v := .tuple #[parts0, .int .i64 3]) (by simp [results, Try.results44, go_sem, r0, r1', r2, r3, r4]) rfl ⟨LS.out, .inr ⟨rfl, HNO.out⟩⟩
        · have h120i : (120 : Int) < (P.L : Int) := by omega
          have h120d : decide ((120 : Int) < (P.L : Int)) = true := decide_eq_true h120i
          have h120n : 120 < P.L := by omega
          have h120e : decide (120 < P.L) = true := decide_eq_true h120n
          have HNO := Lib.hid (show ¬ CloCan x1 P.q P.j from fun ⟨_, hs', r', k', hf', hl'⟩ => by
            have hpr : pp ≤ r' := Nat.le_of_not_lt fun hl => HLE.out r' hf'.1.p1 hl (fits_of hf'.1 hf'.2.1)
            have e := clox_of GY.out hf'.1 hf'.2.1 hp1 hpr HF.out.1
            have hf6 := HF.out.2
            rw [e] at hf6
            have hLe := QS.out.l
            obtain ⟨rfl, rfl, rfl⟩ := hf6.unique hf'
            omega)
          have T7 := T6
          obtain ⟨⟨r0, r1', r2, s0, s1, s2⟩, r3, r4, s3, s4⟩ := (T7.out.pr).res
          have LS := Lib.hid (T7.out.pr).lose
          go_wp2_with fail
          exact bodyPost_ret (v := .tuple #[parts0, .int .i64 3]) (by simp [results, Try.results44, go_sem, r0, r1', r2, r3, r4]) rfl ⟨LS.out, .inr ⟨rfl, HNO.out⟩⟩
      · -- there is none
        have HNO := Lib.hid (show ¬ CloCan x1 r1 k1 from fun ⟨_, hs', r', k', hf', hl'⟩ => by
          have hpr : pp ≤ r' := Nat.le_of_not_lt fun hl => hleast r' hf'.1.p1 hl (fits_of hf'.1 hf'.2.1)
          have e := clox_of GY.out hf'.1 hf'.2.1 hp1 hpr hfit
          rw [e] at hnc
          exact hnc hf'.can)
        have hbx := qbox_below w3 (.cells #[.slice none 0 0, .int .i64 0, .int .i64 0] 24)
        obtain ⟨W4, hW4⟩ : ∃ W', w3.alloc (.cells #[.slice none 0 0, .int .i64 0, .int .i64 0] 24) = W' := ⟨_, rfl⟩
        have T7 := Lib.hid (show PR w a3 n3 cap3 x1 r1 k1 W4 from by rw [← hW4]; exact (T2.out.call hb).call hbx)
        have HW4 := Lib.hid hW4
        clear hb hnc hleast hfit hbx hW4
        go_upto_region 7 with fail
        try rw [HW4.out]
        clear HW4
        obtain ⟨⟨r0, r1', r2, s0, s1, s2⟩, r3, r4, s3, s4⟩ := (T7.out).res
        have LS := Lib.hid (T7.out).lose
        go_wp2_with fail
        exact bodyPost_ret (v := .tuple #[parts0, .int .i64 3]) (by simp [results, Try.results44, go_sem, r0, r1', r2, r3, r4]) rfl ⟨LS.out, .inr ⟨rfl, HNO.out⟩⟩
    · have HNO := Lib.hid (show ¬ CloCan x1 r1 k1 from fun ⟨_, hs', r', k', hf', hl'⟩ => hno r' hf'.1.p1 hf'.1.p2 (fits_of hf'.1 hf'.2.1))
      have hbx := qbox_below w3 (.cells #[.slice none 0 0, .int .i64 0, .int .i64 0] 24)
      obtain ⟨W4, hW4⟩ : ∃ W', w3.alloc (.cells #[.slice none 0 0, .int .i64 0, .int .i64 0] 24) = W' := ⟨_, rfl⟩
      have T7 := Lib.hid (show PR w a3 n3 cap3 x1 r1 k1 W4 from by rw [← hW4]; exact (T2.out.call hb).call hbx)
      have HW4 := Lib.hid hW4
      clear hb hno hbx hW4
      go_upto_region 7 with fail
      try rw [HW4.out]
      clear HW4
      obtain ⟨⟨r0, r1', r2, s0, s1, s2⟩, r3, r4, s3, s4⟩ := (T7.out).res
      have LS := Lib.hid (T7.out).lose
      go_wp2_with fail
      exact bodyPost_ret (v := .tuple #[parts0, .int .i64 3]) (by simp [results, Try.results44, go_sem, r0, r1', r2, r3, r4]) rfl ⟨LS.out, .inr ⟨rfl, HNO.out⟩⟩
  · have h60i : (60 : Int) < (n3 : Int) := by omega
    have HNO := Lib.hid (show ¬ CloCan x1 r1 k1 from fun ⟨h, _⟩ => by omega)
    have LS := Lib.hid T1.out.lose
    go_wp2_with fail
    exact bodyPost_ret (v := .tuple #[parts0, .int .i64 3]) (by simp [results, Try.results44, go_sem, r0, r1', r2, r3, r4]) rfl ⟨LS.out, .inr ⟨rfl, HNO.out⟩⟩

end Go.Proofs.Ytjjaaknjdmijbaa
