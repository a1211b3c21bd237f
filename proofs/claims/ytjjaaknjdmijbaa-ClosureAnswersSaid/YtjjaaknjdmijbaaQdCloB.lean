/- The pair of a closure: whether a value is attained, the least parts, a list of parts is checked, sub-additivity. By the verifier's side. -/
import Derived.Test.YtjjaaknjdmijbaaQdCloA
namespace Go.Proofs.Ytjjaaknjdmijbaa
open Go.RowKit
set_option linter.unusedSimpArgs false
set_option linter.unusedVariables false

/-- Block b holds a pair, and may be written. -/
structure P6 (w : World) (b : Nat) (x0 x1 x2 y0 y1 y2 : Value) : Prop where
  lo : Cur3 w b x0 x1 x2
  c3 : w.cell? ⟨b, 3, none⟩ = some y0
  c4 : w.cell? ⟨b, 4, none⟩ = some y1
  c5 : w.cell? ⟨b, 5, none⟩ = some y2
  f3 : w.frozen? ⟨b, 3, none⟩ = false
  f4 : w.frozen? ⟨b, 4, none⟩ = false
  f5 : w.frozen? ⟨b, 5, none⟩ = false
section
variable {w w' : World} {b : Nat} {x0 x1 x2 y0 y1 y2 : Value}
theorem P6.lt (h : P6 w b x0 x1 x2 y0 y1 y2) : b < w.heap.size := h.lo.lt
theorem P6.below (h : P6 w b x0 x1 x2 y0 y1 y2) (hb : Below w.heap.size w w') : P6 w' b x0 x1 x2 y0 y1 y2 :=
  ⟨h.lo.below hb, (hb.cell (p := ⟨b, 3, none⟩) h.lt).trans h.c3, (hb.cell (p := ⟨b, 4, none⟩) h.lt).trans h.c4, (hb.cell (p := ⟨b, 5, none⟩) h.lt).trans h.c5, (hb.frozen (p := ⟨b, 3, none⟩) h.lt).trans h.f3, (hb.frozen (p := ⟨b, 4, none⟩) h.lt).trans h.f4, (hb.frozen (p := ⟨b, 5, none⟩) h.lt).trans h.f5⟩
theorem P6.other (h : P6 w b x0 x1 x2 y0 y1 y2) {q : Nat} (hq : ¬ b = q) (i : Nat) (v : Value) : P6 (w.setCell ⟨q, i, none⟩ v) b x0 x1 x2 y0 y1 y2 := by
  have hb : (w.setCell ⟨q, i, none⟩ v).heap[b]? = w.heap[b]? := Below.heap_setCell _ _ _ _ hq
  exact ⟨h.lo.other hq i v, (World.cell?_of_block (w := w) (a := ⟨b, 3, none⟩) hb).trans h.c3, (World.cell?_of_block (w := w) (a := ⟨b, 4, none⟩) hb).trans h.c4, (World.cell?_of_block (w := w) (a := ⟨b, 5, none⟩) hb).trans h.c5,
    (World.frozen?_of_block (w := w) (a := ⟨b, 3, none⟩) hb).trans h.f3, (World.frozen?_of_block (w := w) (a := ⟨b, 4, none⟩) hb).trans h.f4, (World.frozen?_of_block (w := w) (a := ⟨b, 5, none⟩) hb).trans h.f5⟩
theorem p6_new (w : World) (x0 x1 x2 y0 y1 y2 : Value) (t : TypeId) : P6 (w.alloc (.cells #[x0, x1, x2, y0, y1, y2] t)) w.heap.size x0 x1 x2 y0 y1 y2 :=
  ⟨⟨by go_simp, by go_simp, by go_simp, by go_simp, by go_simp, by go_simp⟩, by go_simp, by go_simp, by go_simp, by go_simp, by go_simp, by go_simp⟩
theorem P6.set6 (h : P6 w b x0 x1 x2 y0 y1 y2) (z0 z1 z2 z3 z4 z5 : Value) : P6 ((((((w.setCell ⟨b, 0, none⟩ z0).setCell ⟨b, 1, none⟩ z1).setCell ⟨b, 2, none⟩ z2).setCell ⟨b, 3, none⟩ z3).setCell ⟨b, 4, none⟩ z4).setCell ⟨b, 5, none⟩ z5) b z0 z1 z2 z3 z4 z5 := by
  obtain ⟨⟨c0, c1, c2, f0, f1, f2⟩, c3, c4, c5, f3, f4, f5⟩ := h
  exact ⟨⟨by go_simp, by go_simp, by go_simp, by go_simp, by go_simp, by go_simp⟩, by go_simp, by go_simp, by go_simp, by go_simp, by go_simp, by go_simp⟩
theorem P6.set3 (h : P6 w b x0 x1 x2 y0 y1 y2) (z : Value) : P6 (w.setCell ⟨b, 3, none⟩ z) b x0 x1 x2 z y1 y2 := by
  obtain ⟨⟨c0, c1, c2, f0, f1, f2⟩, c3, c4, c5, f3, f4, f5⟩ := h
  exact ⟨⟨by go_simp, by go_simp, by go_simp, by go_simp, by go_simp, by go_simp⟩, by go_simp, by go_simp, by go_simp, by go_simp, by go_simp, by go_simp⟩
theorem P6.set4 (h : P6 w b x0 x1 x2 y0 y1 y2) (z : Value) : P6 (w.setCell ⟨b, 4, none⟩ z) b x0 x1 x2 y0 z y2 := by
  obtain ⟨⟨c0, c1, c2, f0, f1, f2⟩, c3, c4, c5, f3, f4, f5⟩ := h
  exact ⟨⟨by go_simp, by go_simp, by go_simp, by go_simp, by go_simp, by go_simp⟩, by go_simp, by go_simp, by go_simp, by go_simp, by go_simp, by go_simp⟩
theorem P6.set5 (h : P6 w b x0 x1 x2 y0 y1 y2) (z : Value) : P6 (w.setCell ⟨b, 5, none⟩ z) b x0 x1 x2 y0 y1 z := by
  obtain ⟨⟨c0, c1, c2, f0, f1, f2⟩, c3, c4, c5, f3, f4, f5⟩ := h
  exact ⟨⟨by go_simp, by go_simp, by go_simp, by go_simp, by go_simp, by go_simp⟩, by go_simp, by go_simp, by go_simp, by go_simp, by go_simp, by go_simp⟩
end

/-- The numbers and places of a pair. -/
structure QV where
  a1 : Option Addr
  n1 : Nat
  cap1 : Nat
  q : Nat
  j : Int
  a2 : Option Addr
  n2 : Nat
  cap2 : Nat
  r : Nat
  k : Int
  A : Nat
  B : Nat
  S : Nat
  L : Nat
  R : Nat
  al : Bool
abbrev cpV (P : QV) : Value :=
  .agg #[closPV P.A, closPV P.B, .int .i64 P.S, .int .i64 P.L, .int .i64 P.R, .bool P.al]
abbrev cpO (P : QV) : Obj := .cells #[closPV P.A, closPV P.B, .int .i64 P.S, .int .i64 P.L, .int .i64 P.R, .bool P.al] 122
abbrev P6B (w : World) (b : Nat) (P : QV) : Prop :=
  P6 w b (closPV P.A) (closPV P.B) (.int .i64 P.S) (.int .i64 P.L) (.int .i64 P.R) (.bool P.al)
/-- What a pair says of its curves. -/
structure QIs (P : QV) (ys hs : List Int) : Prop where
  g : Good ys P.q P.j
  k : Good hs P.r P.k
  s : P.S = hs.length - P.r
  l : P.L = comL P.q hs P.r
  r : P.R = horC ys P.q hs P.r P.L
  al : ¬ InfC hs → (P.al = true ↔ Alike ys P.q P.j P.r P.k)
/-- Its closures stand. -/
structure QIn (P : QV) (ys hs : List Int) (w : World) : Prop where
  c1 : ClosP w P.A P.a1 P.n1 P.cap1 ys P.q P.j
  c2 : ClosP w P.B P.a2 P.n2 P.cap2 hs P.r P.k
theorem QIn.under {P : QV} {ys hs : List Int} {w v : World} (h : QIn P ys hs w) (hb : Below w.heap.size w v) : QIn P ys hs v := ⟨h.c1.under hb, h.c2.under hb⟩
theorem qpair_box {P : QV} {w W : World} (hW : w.alloc (cpO P) = W) : Below w.heap.size w W ∧ P6B W w.heap.size P ∧ W.heap.size = w.heap.size + 1 := by
  rw [← hW]; exact ⟨(Below.refl _ _).alloc (Nat.le_refl _) _, p6_new w _ _ _ _ _ _ _, by simp⟩
theorem QIs.big {P : QV} {ys hs : List Int} (h : QIs P ys hs) : P.R ≤ 20000 ∧ P.L ≤ 14400 ∧ 1 ≤ P.L := by
  have h1 : P.L ≤ 120 * 120 := by
    rw [h.l]
    by_cases hi : InfC hs
    · rw [comL_inf hi]; omega
    · rw [comL_fin hi]
      exact Nat.mul_le_mul (Nat.le_trans (Nat.div_le_self _ _) h.g.p2) h.k.p2
  have h2 := comL_one (hs := hs) h.g.p1 h.k.p1
  rw [← h.l] at h2
  have hr := h.r
  have := h.g.few
  have := h.k.few
  unfold horC at hr
  omega

/-- A closure's call in whatever world above. -/
theorem clos_q {w : World} {B : Nat} {a : Option Addr} {n cap : Nat} {zs : List Int} {p : Nat} {inc : Int} (h : ClosP w B a n cap zs p inc) {t : Nat} (ht : t ≤ 4194304) {v : Int} (hv : atC zs p inc t = v) :
    Hid (∀ W, Below w.heap.size w W → Calls Try.prog 181 #[.int .i64 t, .pointer (some ⟨B + 1, 0, none⟩), .pointer (some ⟨B, 0, none⟩)] W fun e w' => e = .returned (.int .i64 v) ∧ ∃ m, w' = W.drewN m) := Lib.hid (fun W hb => by rw [← hv]; exact atp_any B a n cap zs p inc t ht W (h.under hb))
theorem att_zero {ys hs : List Int} {P : QV} (hP : QIs P ys hs) {t : Nat} (ht : t ≤ 100000) : (∃ s : Nat, (0 : Int) = s ∧ CAtt ys P.q P.j hs P.r P.k P.R s t) ↔ (atC ys P.q P.j t = atC hs P.r P.k t ∧ (t < P.R ∨ atC hs P.r P.k t = infV ∨ P.al = true)) := by
  have hlate : ∀ {t : Nat}, ¬ t < P.R → InfC hs → atC hs P.r P.k t = infV := fun {t} hl hi => by
    have hr := hP.r
    have := (hP.k.tailI hi).1
    have := hP.k.p3
    have := hP.k.p1
    unfold horC at hr
    exact atC_inf hi (by omega) (by omega)
  constructor
  · rintro ⟨s, he, ⟨rfl, e, h⟩ | ⟨h1, _⟩⟩
    · refine ⟨e, ?_⟩
      by_cases hl : t < P.R
      · exact .inl hl
      by_cases hi : InfC hs
      · exact .inr (.inl (hlate hl hi))
      · exact .inr (h.elim (fun h => absurd h hl) fun h => h.imp id fun h => (hP.al hi).2 h)
    · omega
  · rintro ⟨e, h⟩
    refine ⟨0, rfl, .inl ⟨rfl, e, ?_⟩⟩
    by_cases hl : t < P.R
    · exact .inl hl
    by_cases hi : InfC hs
    · exact .inr (.inl (hlate hl hi))
    · exact .inr (h.elim (fun h => absurd h hl) fun h => h.imp id fun h => (hP.al hi).1 h)

set_option maxRecDepth 100000 in
set_option maxHeartbeats 3200000 in
theorem qattains_any (P : QV) (ys hs : List Int) (hP : QIs P ys hs) (si ti : Int) (t : Nat) (hti : ti = t) (ht1 : 1 ≤ t) (ht2 : t ≤ 30000) (hsi : In64 si) (b : Bool) (hb : b = true ↔ ∃ s : Nat, si = s ∧ CAtt ys P.q P.j hs P.r P.k P.R s t) (w : World) (h : QIn P ys hs w) :
    Calls Try.prog 178 #[cpV P, .int .i64 si, .int .i64 ti] w (Says (.bool b) w) := by
  subst hti
  obtain ⟨W, hW⟩ : ∃ W, w.alloc (cpO P) = W := ⟨_, rfl⟩
  obtain ⟨hB, kp, _⟩ := qpair_box hW
  have HB := Lib.hid hB
  have KP := Lib.hid kp
  have HI := Lib.hid (h.under hB)
  have HW := Lib.hid hW
  have HP := Lib.hid hP
  obtain ⟨x, hx⟩ : ∃ x, atC hs P.r P.k t = x := ⟨_, rfl⟩
  obtain ⟨y, hy⟩ : ∃ y, atC ys P.q P.j t = y := ⟨_, rfl⟩
  have HX := clos_q HI.out.c2 (show t ≤ 4194304 by omega) hx
  have HY := clos_q HI.out.c1 (show t ≤ 4194304 by omega) hy
  have ev : ∀ (args : Array Value) (w : World), (callFunc 181 args).run Try.prog w = .ok (.enter 181 args) w := enters_of Try.func181 (by kernel_rfl) rfl
  by_cases h0 : si = 0
  · subst h0
    rw [att_zero hP (by omega), hx, hy] at hb
    have hcase : (¬ y = x ∧ b = false) ∨ (y = x ∧ t < P.R ∧ b = true) ∨ (y = x ∧ ¬ t < P.R ∧ x = 4611686018427387904 ∧ b = true) ∨ (y = x ∧ ¬ t < P.R ∧ ¬ x = 4611686018427387904 ∧ b = P.al) := by
      have hbf : ¬ (y = x ∧ (t < P.R ∨ x = infV ∨ P.al = true)) → b = false := fun hn => by
        cases b with
        | false => rfl
        | true => exact absurd (hb.1 rfl) hn
      by_cases e : y = x
      · by_cases hl : t < P.R
        · exact .inr (.inl ⟨e, hl, hb.2 ⟨e, .inl hl⟩⟩)
        · by_cases hi : x = 4611686018427387904
          · exact .inr (.inr (.inl ⟨e, hl, hi, hb.2 ⟨e, .inr (.inl hi)⟩⟩))
          · refine .inr (.inr (.inr ⟨e, hl, hi, ?_⟩))
            cases ha : P.al with
            | true => exact hb.2 ⟨e, .inr (.inr ha)⟩
            | false => exact hbf fun ⟨_, h⟩ => h.elim hl fun h => h.elim hi fun h => by rw [ha] at h; cases h
      · exact .inl ⟨e, hbf fun h => e h.1⟩
    clear hb hx hy hB kp hW h hP
    rcases hcase with ⟨h1, rfl⟩ | ⟨rfl, h2, rfl⟩ | ⟨rfl, h2, rfl, rfl⟩ | ⟨rfl, h2, h3, rfl⟩
    · have t1 : (y == x) = false := by simpa using h1
      go_enter Try.func178, Try.ntmps178
      go_upto_region 1 with fail
      try rw [HW.out]
      obtain ⟨⟨c0, c1, c2, f0, f1, f2⟩, c3, c4, c5, f3, f4, f5⟩ := KP.out
      go_quiet ((go_at_fn 181; with_reducible exact Calls.quiet_of (HX.out _ (by first | exact Below.refl _ _ | exact (Below.refl _ _).drewN _))))
      go_wp2_with fail
      refine (HY.out _ (by first | exact Below.refl _ _ | exact (Below.refl _ _).drewN _ | exact ((Below.refl _ _).drewN _).drewN _)).mono ?_
      rintro e w5 ⟨rfl, m, rfl⟩
      go_wp2_with fail
      go_ret
      exact ⟨rfl, by first | exact HB.out.drewN _ | exact (HB.out.drewN _).drewN _ | exact ((HB.out.drewN _).drewN _).drewN _⟩
    · have t1 : ((y : Int) == y) = true := by simp
      have t2 : (t : Int) < (P.R : Int) := by omega
      have t3 : decide ((t : Int) < (P.R : Int)) = true := decide_eq_true t2
      go_enter Try.func178, Try.ntmps178
      go_upto_region 1 with fail
      try rw [HW.out]
      obtain ⟨⟨c0, c1, c2, f0, f1, f2⟩, c3, c4, c5, f3, f4, f5⟩ := KP.out
      go_quiet ((go_at_fn 181; with_reducible exact Calls.quiet_of (HX.out _ (by first | exact Below.refl _ _ | exact (Below.refl _ _).drewN _))))
      go_wp2_with fail
      refine (HY.out _ (by first | exact Below.refl _ _ | exact (Below.refl _ _).drewN _ | exact ((Below.refl _ _).drewN _).drewN _)).mono ?_
      rintro e w5 ⟨rfl, m, rfl⟩
      go_wp2_with fail
      go_ret
      exact ⟨rfl, by first | exact HB.out.drewN _ | exact (HB.out.drewN _).drewN _ | exact ((HB.out.drewN _).drewN _).drewN _⟩
    · have t2 : ¬ (t : Int) < (P.R : Int) := by omega
      have t3 : decide ((t : Int) < (P.R : Int)) = false := decide_eq_false t2
      go_enter Try.func178, Try.ntmps178
      go_upto_region 1 with fail
      try rw [HW.out]
      obtain ⟨⟨c0, c1, c2, f0, f1, f2⟩, c3, c4, c5, f3, f4, f5⟩ := KP.out
      go_quiet ((go_at_fn 181; with_reducible exact Calls.quiet_of (HX.out _ (by first | exact Below.refl _ _ | exact (Below.refl _ _).drewN _))))
      go_wp2_with fail
      refine (HY.out _ (by first | exact Below.refl _ _ | exact (Below.refl _ _).drewN _ | exact ((Below.refl _ _).drewN _).drewN _)).mono ?_
      rintro e w5 ⟨rfl, m, rfl⟩
      go_wp2_with fail
      go_ret
      exact ⟨rfl, by first | exact HB.out.drewN _ | exact (HB.out.drewN _).drewN _ | exact ((HB.out.drewN _).drewN _).drewN _⟩
    · have t1 : ((y : Int) == y) = true := by simp
      have t2 : ¬ (t : Int) < (P.R : Int) := by omega
      have t3 : decide ((t : Int) < (P.R : Int)) = false := decide_eq_false t2
      have t4 : (y == 4611686018427387904) = false := by simpa using h3
      go_enter Try.func178, Try.ntmps178
      go_upto_region 1 with fail
      try rw [HW.out]
      obtain ⟨⟨c0, c1, c2, f0, f1, f2⟩, c3, c4, c5, f3, f4, f5⟩ := KP.out
      go_quiet ((go_at_fn 181; with_reducible exact Calls.quiet_of (HX.out _ (by first | exact Below.refl _ _ | exact (Below.refl _ _).drewN _))))
      go_wp2_with fail
      refine (HY.out _ (by first | exact Below.refl _ _ | exact (Below.refl _ _).drewN _ | exact ((Below.refl _ _).drewN _).drewN _)).mono ?_
      rintro e w5 ⟨rfl, m, rfl⟩
      go_wp2_with fail
      go_ret
      exact ⟨rfl, by first | exact HB.out.drewN _ | exact (HB.out.drewN _).drewN _ | exact ((HB.out.drewN _).drewN _).drewN _⟩
  · have hcase : (¬ 0 < si ∧ b = false) ∨ (0 < si ∧ ¬ si < t ∧ b = false) ∨ (∃ s d : Nat, si = s ∧ 1 ≤ s ∧ s < t ∧ t - s = d ∧ ((¬ plI (atC hs P.r P.k s) (atC hs P.r P.k d) = x ∧ b = false) ∨ (plI (atC hs P.r P.k s) (atC hs P.r P.k d) = x ∧ t < P.R ∧ b = true) ∨ (plI (atC hs P.r P.k s) (atC hs P.r P.k d) = x ∧ ¬ t < P.R ∧ b = decide (P.S ≤ d)))) := by
      have hbf : ∀ q : Prop, (b = true → q) → ¬ q → b = false := fun q h1 h2 => by
        cases b with
        | false => rfl
        | true => exact absurd (h1 rfl) h2
      by_cases h1 : 0 < si
      · by_cases h2 : si < t
        · obtain ⟨s, rfl⟩ := Int.eq_ofNat_of_zero_le (show 0 ≤ si by omega)
          refine .inr (.inr ⟨s, t - s, rfl, by omega, by omega, rfl, ?_⟩)
          have hb2 : b = true ↔ plI (atC hs P.r P.k s) (atC hs P.r P.k (t - s)) = x ∧ (t < P.R ∨ P.S ≤ t - s) := by
            rw [hb, hP.s, ← hx]
            constructor
            · rintro ⟨s', he, ⟨rfl, _⟩ | ⟨a1, a2, a3, a4⟩⟩
              · omega
              · obtain rfl : s = s' := by omega
                exact ⟨a3, a4⟩
            · rintro ⟨a3, a4⟩
              exact ⟨s, rfl, .inr ⟨by omega, by omega, a3, a4⟩⟩
          by_cases e : plI (atC hs P.r P.k s) (atC hs P.r P.k (t - s)) = x
          · by_cases hl : t < P.R
            · exact .inr (.inl ⟨e, hl, hb2.2 ⟨e, .inl hl⟩⟩)
            · refine .inr (.inr ⟨e, hl, ?_⟩)
              by_cases hd : P.S ≤ t - s
              · rw [decide_eq_true hd]; exact hb2.2 ⟨e, .inr hd⟩
              · rw [decide_eq_false hd]; exact hbf _ hb2.1 fun ⟨_, h⟩ => h.elim hl hd
          · exact .inl ⟨e, hbf _ hb2.1 fun h => e h.1⟩
        · refine .inr (.inl ⟨h1, h2, hbf _ hb.1 ?_⟩)
          rintro ⟨s, he, ⟨rfl, _⟩ | ⟨a1, a2, _⟩⟩ <;> omega
      · refine .inl ⟨h1, hbf _ hb.1 ?_⟩
        rintro ⟨s, he, ⟨rfl, _⟩ | ⟨a1, a2, _⟩⟩ <;> omega
    have hxm : Mid x := by rw [← hx]; exact at_mid2 hP.k (by omega)
    have HS := Lib.hid hP.s
    clear hb hx hy hB kp hW h hP
    rcases hcase with ⟨h1, rfl⟩ | ⟨h1, h2, rfl⟩ | ⟨s, d, rfl, hs1, hs2, hd, hc⟩
    · have g0 : (si == 0) = false := by simpa using h0
      have g1 : ¬ 0 < si := h1
      have g2 : decide (0 < si) = false := decide_eq_false h1
      go_enter Try.func178, Try.ntmps178
      go_upto_region 1 with fail
      try rw [HW.out]
      obtain ⟨⟨c0, c1, c2, f0, f1, f2⟩, c3, c4, c5, f3, f4, f5⟩ := KP.out
      go_quiet ((go_at_fn 181; with_reducible exact Calls.quiet_of (HX.out _ (by first | exact Below.refl _ _ | exact (Below.refl _ _).drewN _))))
      go_wp2_with fail
      obtain ⟨W2, hW2⟩ : ∃ W2, W.drewN nq = W2 := ⟨_, rfl⟩
      have BW2 : Below W.heap.size W W2 := by rw [← hW2]; exact (Below.refl _ _).drewN _
      rw [hW2]
      have HB2 := Lib.hid (HB.out.trans (BW2.mono HB.out.size))
      have BW := Lib.hid BW2
      clear c0 c1 c2 f0 f1 f2 c3 c4 c5 f3 f4 f5
      obtain ⟨⟨c0, c1, c2, f0, f1, f2⟩, c3, c4, c5, f3, f4, f5⟩ := KP.out.below BW2
      clear hW2 BW2
      go_quiet (fail)
      go_wp2_with fail
      go_ret
      exact ⟨rfl, by first | exact HB2.out.drewN _ | exact HB2.out⟩
    · have g0 : (si == 0) = false := by simpa using h0
      have g1 : 0 < si := h1
      have g2 : decide (0 < si) = true := decide_eq_true h1
      have g3 : ¬ si < (t : Int) := h2
      have g4 : decide (si < (t : Int)) = false := decide_eq_false h2
      go_enter Try.func178, Try.ntmps178
      go_upto_region 1 with fail
      try rw [HW.out]
      obtain ⟨⟨c0, c1, c2, f0, f1, f2⟩, c3, c4, c5, f3, f4, f5⟩ := KP.out
      go_quiet ((go_at_fn 181; with_reducible exact Calls.quiet_of (HX.out _ (by first | exact Below.refl _ _ | exact (Below.refl _ _).drewN _))))
      go_wp2_with fail
      obtain ⟨W2, hW2⟩ : ∃ W2, W.drewN nq = W2 := ⟨_, rfl⟩
      have BW2 : Below W.heap.size W W2 := by rw [← hW2]; exact (Below.refl _ _).drewN _
      rw [hW2]
      have HB2 := Lib.hid (HB.out.trans (BW2.mono HB.out.size))
      have BW := Lib.hid BW2
      clear c0 c1 c2 f0 f1 f2 c3 c4 c5 f3 f4 f5
      obtain ⟨⟨c0, c1, c2, f0, f1, f2⟩, c3, c4, c5, f3, f4, f5⟩ := KP.out.below BW2
      clear hW2 BW2
      go_quiet (fail)
      go_wp2_with fail
      go_ret
      exact ⟨rfl, by first | exact HB2.out.drewN _ | exact HB2.out⟩
    · have g0 : ((s : Int) == 0) = false := by simp; omega
      have g1 : (0 : Int) < (s : Int) := by omega
      have g1n : 0 < s := by omega
      have g2 : decide ((0 : Int) < (s : Int)) = true := decide_eq_true g1
      have g3 : (s : Int) < (t : Int) := by omega
      have g4 : decide ((s : Int) < (t : Int)) = true := decide_eq_true g3
      have gd : (t : Int) - (s : Int) = (d : Int) := by omega
      have gw : IntKind.i64.wrap (d : Int) = (d : Int) := IntWalk.i64_in _ ⟨by omega, by omega⟩
      obtain ⟨u, hu⟩ : ∃ u, atC hs P.r P.k s = u := ⟨_, rfl⟩
      obtain ⟨v, hv⟩ : ∃ v, atC hs P.r P.k d = v := ⟨_, rfl⟩
      have hum : Mid u := by rw [← hu]; exact at_mid2 HP.out.k (by omega)
      have hvm : Mid v := by rw [← hv]; exact at_mid2 HP.out.k (by omega)
      have HU := clos_q HI.out.c2 (show s ≤ 4194304 by omega) hu
      have HV := clos_q HI.out.c2 (show d ≤ 4194304 by omega) hv
      rw [hu, hv] at hc
      obtain ⟨pv, hpv⟩ : ∃ pv, plI u v = pv := ⟨_, rfl⟩
      rw [hpv] at hc
      have HPL := Lib.hid (show ∀ W, Calls Try.prog 175 #[.int .i64 u, .int .i64 v] W fun e w' => e = .returned (.int .i64 pv) ∧ w' = W from fun W => by rw [← hpv]; exact pplus_any u v hum hvm W)
      clear hu hv hum hvm hpv
      rcases hc with ⟨e, rfl⟩ | ⟨rfl, hl, rfl⟩ | ⟨rfl, hl, hbd⟩
      · have k1 : (pv == x) = false := by simpa using e
        go_enter Try.func178, Try.ntmps178
        go_upto_region 1 with fail
        try rw [HW.out]
        obtain ⟨⟨c0, c1, c2, f0, f1, f2⟩, c3, c4, c5, f3, f4, f5⟩ := KP.out
        go_quiet ((go_at_fn 181; with_reducible exact Calls.quiet_of (HX.out _ (by first | exact Below.refl _ _ | exact (Below.refl _ _).drewN _))))
        go_wp2_with fail
        obtain ⟨W2, hW2⟩ : ∃ W2, W.drewN nq = W2 := ⟨_, rfl⟩
        have BW2 : Below W.heap.size W W2 := by rw [← hW2]; exact (Below.refl _ _).drewN _
        rw [hW2]
        have HB2 := Lib.hid (HB.out.trans (BW2.mono HB.out.size))
        have BW := Lib.hid BW2
        clear c0 c1 c2 f0 f1 f2 c3 c4 c5 f3 f4 f5
        obtain ⟨⟨c0, c1, c2, f0, f1, f2⟩, c3, c4, c5, f3, f4, f5⟩ := KP.out.below BW2
        clear hW2 BW2
        go_quiet (first
          | (go_at_fn 181; with_reducible exact Calls.quiet_of (HU.out _ (by first | exact BW.out.drewN _ | exact BW.out)))
          | (go_at_fn 181; with_reducible exact Calls.quiet_of (HV.out _ (by first | exact BW.out.drewN _ | exact BW.out)))
          | (go_at_call 175; exact Calls.quiet_of_same (HPL.out _)))
        go_wp2_with fail
        go_ret
        exact ⟨rfl, by first | exact HB2.out.drewN _ | exact HB2.out⟩
      · have k1 : (pv == pv) = true := by simp
        have k2 : (t : Int) < (P.R : Int) := by omega
        have k3 : decide ((t : Int) < (P.R : Int)) = true := decide_eq_true k2
        go_enter Try.func178, Try.ntmps178
        go_upto_region 1 with fail
        try rw [HW.out]
        obtain ⟨⟨c0, c1, c2, f0, f1, f2⟩, c3, c4, c5, f3, f4, f5⟩ := KP.out
        go_quiet ((go_at_fn 181; with_reducible exact Calls.quiet_of (HX.out _ (by first | exact Below.refl _ _ | exact (Below.refl _ _).drewN _))))
        go_wp2_with fail
        obtain ⟨W2, hW2⟩ : ∃ W2, W.drewN nq = W2 := ⟨_, rfl⟩
        have BW2 : Below W.heap.size W W2 := by rw [← hW2]; exact (Below.refl _ _).drewN _
        rw [hW2]
        have HB2 := Lib.hid (HB.out.trans (BW2.mono HB.out.size))
        have BW := Lib.hid BW2
        clear c0 c1 c2 f0 f1 f2 c3 c4 c5 f3 f4 f5
        obtain ⟨⟨c0, c1, c2, f0, f1, f2⟩, c3, c4, c5, f3, f4, f5⟩ := KP.out.below BW2
        clear hW2 BW2
        go_quiet (first
          | (go_at_fn 181; with_reducible exact Calls.quiet_of (HU.out _ (by first | exact BW.out.drewN _ | exact BW.out)))
          | (go_at_fn 181; with_reducible exact Calls.quiet_of (HV.out _ (by first | exact BW.out.drewN _ | exact BW.out)))
          | (go_at_call 175; exact Calls.quiet_of_same (HPL.out _)))
        go_wp2_with fail
        go_ret
        exact ⟨rfl, by first | exact HB2.out.drewN _ | exact HB2.out⟩
      · have k1 : (pv == pv) = true := by simp
        have k2 : ¬ (t : Int) < (P.R : Int) := by omega
        have k3 : decide ((t : Int) < (P.R : Int)) = false := decide_eq_false k2
        by_cases hsd : P.S ≤ d
        · rw [decide_eq_true hsd] at hbd
          subst hbd
          have k4 : (P.S : Int) ≤ (d : Int) := by omega
          have k5 : decide ((P.S : Int) ≤ (d : Int)) = true := decide_eq_true k4
          go_enter Try.func178, Try.ntmps178
          go_upto_region 1 with fail
          try rw [HW.out]
          obtain ⟨⟨c0, c1, c2, f0, f1, f2⟩, c3, c4, c5, f3, f4, f5⟩ := KP.out
          go_quiet ((go_at_fn 181; with_reducible exact Calls.quiet_of (HX.out _ (by first | exact Below.refl _ _ | exact (Below.refl _ _).drewN _))))
          go_wp2_with fail
          obtain ⟨W2, hW2⟩ : ∃ W2, W.drewN nq = W2 := ⟨_, rfl⟩
          have BW2 : Below W.heap.size W W2 := by rw [← hW2]; exact (Below.refl _ _).drewN _
          rw [hW2]
          have HB2 := Lib.hid (HB.out.trans (BW2.mono HB.out.size))
          have BW := Lib.hid BW2
          clear c0 c1 c2 f0 f1 f2 c3 c4 c5 f3 f4 f5
          obtain ⟨⟨c0, c1, c2, f0, f1, f2⟩, c3, c4, c5, f3, f4, f5⟩ := KP.out.below BW2
          clear hW2 BW2
          go_quiet (first
            | (go_at_fn 181; with_reducible exact Calls.quiet_of (HU.out _ (by first | exact BW.out.drewN _ | exact BW.out)))
            | (go_at_fn 181; with_reducible exact Calls.quiet_of (HV.out _ (by first | exact BW.out.drewN _ | exact BW.out)))
            | (go_at_call 175; exact Calls.quiet_of_same (HPL.out _)))
          go_wp2_with fail
          go_ret
          exact ⟨rfl, by first | exact HB2.out.drewN _ | exact HB2.out⟩
        · rw [decide_eq_false hsd] at hbd
          subst hbd
          have k4 : ¬ (P.S : Int) ≤ (d : Int) := by omega
          have k5 : decide ((P.S : Int) ≤ (d : Int)) = false := decide_eq_false k4
          go_enter Try.func178, Try.ntmps178
          go_upto_region 1 with fail
          try rw [HW.out]
          obtain ⟨⟨c0, c1, c2, f0, f1, f2⟩, c3, c4, c5, f3, f4, f5⟩ := KP.out
          go_quiet ((go_at_fn 181; with_reducible exact Calls.quiet_of (HX.out _ (by first | exact Below.refl _ _ | exact (Below.refl _ _).drewN _))))
          go_wp2_with fail
          obtain ⟨W2, hW2⟩ : ∃ W2, W.drewN nq = W2 := ⟨_, rfl⟩
          have BW2 : Below W.heap.size W W2 := by rw [← hW2]; exact (Below.refl _ _).drewN _
          rw [hW2]
          have HB2 := Lib.hid (HB.out.trans (BW2.mono HB.out.size))
          have BW := Lib.hid BW2
          clear c0 c1 c2 f0 f1 f2 c3 c4 c5 f3 f4 f5
          obtain ⟨⟨c0, c1, c2, f0, f1, f2⟩, c3, c4, c5, f3, f4, f5⟩ := KP.out.below BW2
          clear hW2 BW2
          go_quiet (first
            | (go_at_fn 181; with_reducible exact Calls.quiet_of (HU.out _ (by first | exact BW.out.drewN _ | exact BW.out)))
            | (go_at_fn 181; with_reducible exact Calls.quiet_of (HV.out _ (by first | exact BW.out.drewN _ | exact BW.out)))
            | (go_at_call 175; exact Calls.quiet_of_same (HPL.out _)))
          go_wp2_with fail
          go_ret
          exact ⟨rfl, by first | exact HB2.out.drewN _ | exact HB2.out⟩
end Go.Proofs.Ytjjaaknjdmijbaa
