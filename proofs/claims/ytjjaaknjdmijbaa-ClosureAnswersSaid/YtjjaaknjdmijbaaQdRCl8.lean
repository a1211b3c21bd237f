/- Of the document's closure: Prove and Of. By the verifier's side. -/
import Derived.Test.YtjjaaknjdmijbaaQdRCl7
import Derived.Test.YtjjaaknjdmijbaaQdCloZ
import Derived.Test.YtjjaaknjdmijbaaQdCloY
import Derived.Test.YtjjaaknjdmijbaaQdRCo1ToDecV
namespace Go.Proofs.Ytjjaaknjdmijbaa
open Go.RowKit
set_option linter.unusedSimpArgs false
set_option linter.unusedVariables false

theorem P5.grown {w w' : World} {b : Nat} {x0 x1 x2 x3 x4 : Value} (h : P5 w b x0 x1 x2 x3 x4) {row : Option Nat} (hg : w.grownBy w' row) (hr : ∀ j, row = some j → b < j) : P5 w' b x0 x1 x2 x3 x4 := by
  have hb : w'.heap[b]? = w.heap[b]? := hg.block b h.lo.lt (fun e => by have := hr b e.symm; omega)
  exact ⟨h.lo.grown hg hr, (World.cell?_of_block (w := w) (a := ⟨b, 3, none⟩) hb).trans h.c3, (World.cell?_of_block (w := w) (a := ⟨b, 4, none⟩) hb).trans h.c4, (World.frozen?_of_block (w := w) (a := ⟨b, 3, none⟩) hb).trans h.f3, (World.frozen?_of_block (w := w) (a := ⟨b, 4, none⟩) hb).trans h.f4⟩
theorem P5.set4 {w : World} {b : Nat} {x0 x1 x2 x3 x4 : Value} (h : P5 w b x0 x1 x2 x3 x4) (y4 : Value) : P5 (w.setCell ⟨b, 4, none⟩ y4) b x0 x1 x2 x3 y4 := by
  obtain ⟨⟨c0, c1, c2, f0, f1, f2⟩, c3, c4, f3, f4⟩ := h
  exact ⟨⟨by go_simp, by go_simp, by go_simp, by go_simp, by go_simp, by go_simp⟩, by go_simp, by go_simp, by go_simp, by go_simp⟩
/-- A certificate's list that grows value by value, in a box behind W. -/
structure A5 (W : World) (a : Option Addr) (n cap : Nat) (p inc fr : Int) (f : Nat → Int) (k : Nat) (sv : Value) (u : World) : Prop where
  below : Below W.heap.size W u
  out : P5 u W.heap.size (.slice a n cap) (.int .i64 p) (.int .i64 inc) (.int .i64 fr) sv
  own : u.ownsRow (W.heap.size + 1) 3 1 sv k ((firsts f k).map (Value.int .i64))
section
variable {W u v : World} {a : Option Addr} {n cap : Nat} {p inc fr : Int} {f : Nat → Int} {k : Nat} {sv : Value}
theorem A5.start (W : World) (a : Option Addr) (n cap : Nat) (p inc fr : Int) (f : Nat → Int) : A5 W a n cap p inc fr f 0 (.slice none 0 0) (W.alloc (.cells #[.slice a n cap, .int .i64 p, .int .i64 inc, .int .i64 fr, .slice none 0 0] 59)) :=
  ⟨below_box _, p5_new W _ _ _ _ _ _, World.ownsRow_nil _ _ _ _⟩
theorem A5.under (h : A5 W a n cap p inc fr f k sv u) (hb : Below u.heap.size u v) : A5 W a n cap p inc fr f k sv v :=
  ⟨h.below.trans (hb.mono h.below.size), h.out.below hb, owns_apart h.own (below_apart (b := W.heap.size) hb) (by omega)⟩
theorem A5.push {v' : Value} (h : A5 W a n cap p inc fr f k sv u) {z : Int} (hown : v.ownsRow (W.heap.size + 1) 3 1 v' (k + 1) ((firsts f k).map (Value.int .i64) ++ [Value.int .i64 z])) (hg : u.grownBy v sv.ownBlock) (hz : f k = z) :
    A5 W a n cap p inc fr f (k + 1) v' (v.setCell ⟨W.heap.size, 4, none⟩ v') ∧ P5 v W.heap.size (.slice a n cap) (.int .i64 p) (.int .i64 inc) (.int .i64 fr) sv := by
  have hrow : ∀ j, sv.ownBlock = some j → W.heap.size + 1 ≤ j := fun j hj => (h.own.lt j hj).1
  have hc := h.out.grown hg (fun j hj => by have := hrow j hj; omega)
  refine ⟨⟨(h.below.grown hg h.below.size (fun j hj => by have := hrow j hj; omega)).setCell (p := ⟨W.heap.size, 4, none⟩) (Nat.le_refl _) v', hc.set4 v', ?_⟩, hc⟩
  rw [firsts_succ, List.map_append, hz]
  exact owns_set hown (p := ⟨W.heap.size, 4, none⟩) (Nat.lt_succ_self _) _
theorem A5.row (h : A5 W a n cap p inc fr f k sv u) (h1 : 1 ≤ k) (hk : k ≤ 100000) (hb : ∀ t, t < k → In64 (f t)) : ∃ g c, sv = .slice (some ⟨g, 0, none⟩) k c ∧ RowZ u (some ⟨g, 0, none⟩) k c (firsts f k) ∧ W.heap.size < g := by
  obtain ⟨g, c, rfl, hg, hg'⟩ := h.own.form (by omega)
  obtain ⟨a9, c9, hv9, R9, X9⟩ := rowZ_of_owns h.own (by omega) (fun i hi => by rw [firsts_length] at hi; rw [firsts_getD _ _ _ hi]; exact hb i hi)
  cases hv9
  exact ⟨g, c, rfl, R9, by have := X9 _ rfl; show W.heap.size + 1 ≤ g; exact this⟩
end

section
variable {ys : List Int} {q : Nat} {jnc : Int} {hs : List Int} {r : Nat} {knc : Int}
/-- What the document's guess is worth: with the least period that fits. -/
theorem guess_no (g : Good ys q jnc) (h : ∀ p, 1 ≤ p → p ≤ 120 → ¬ FitY (encF (eClo ys q jnc)) p) : ¬ CloCan ys q jnc := by
  rintro ⟨_, hs, r, knc, hf, _⟩
  exact h r hf.good.p1 hf.good.p2 (fity_of hf.good hf.2.1)
theorem guess_is (g : Good ys q jnc) {p : Nat} (h1 : 1 ≤ p) (hfit : FitY (encF (eClo ys q jnc)) p) (hl : ∀ q', 1 ≤ q' → q' < p → ¬ FitY (encF (eClo ys q jnc)) q') {hs' : List Int} {r' : Nat} {knc' : Int} (hf : EForm hs' r' knc' (eClo ys q jnc)) : cloY (eC ys q jnc) p = eClo ys q jnc := by
  refine cloy_of g hf.good hf.2.1 h1 ?_ hfit
  apply Nat.not_lt.1
  intro hlt
  exact hl r' hf.good.p1 hlt (fity_of hf.good hf.2.1)
theorem ef_val {E : Nat → Option Int} (h : EForm hs r knc E) : eC hs r knc = E := funext h.2.1
theorem norm_ef {E : Nat → Option Int} (h : EForm hs r knc E) : NormC hs r knc hs r knc := by obtain ⟨_, _, hn⟩ := norm_self h; exact hn
/-- The certificate that the document makes is accepted exactly if there is one. -/
theorem check_clo (g : Good ys q jnc) (h60 : ys.length ≤ 60) {p : Nat} (h1 : 1 ≤ p) (hfit : FitY (encF (eClo ys q jnc)) p) (hl : ∀ q', 1 ≤ q' → q' < p → ¬ FitY (encF (eClo ys q jnc)) q') (hf : EForm hs r knc (cloY (eC ys q jnc) p)) {L F : Nat} (hL : comL q hs r = L) (hF : horC ys q hs r L = F) (ts : List Int) (hts : L ≤ 120 → ts = firsts (partsL ys q jnc hs r knc) (F + L)) :
    (CheckIs ys q jnc hs r knc (F : Int) ts → CloIs ys q jnc hs r knc ts) ∧ (¬ CheckIs ys q jnc hs r knc (F : Int) ts → ¬ CloCan ys q jnc) := by
  subst hL hF
  constructor
  · intro hc
    have he : eC hs r knc = eClo ys q jnc := by
      refine cert_clo g hf.good (by
        have h1 := hf.good.p1; have h3 := hf.good.p3
        have e : atC hs r knc 0 = 0 := by rw [atC_lt (by omega)]; exact hc.zero
        exact eC_zero0 hf.good e) hc.le hc.sub rfl fun t t1 t2 => ?_
      obtain ⟨s, _, h⟩ := hc.att t t1 (by rw [hc.len]; exact t2)
      exact ⟨s, h⟩
    exact ⟨⟨hf.good, fun t => by rw [he], hf.2.2⟩, h60, hc.l, hts hc.l⟩
  · rintro hn ⟨_, hs', r', knc', hf', hl'⟩
    have he := guess_is g h1 hfit hl hf'
    obtain ⟨rfl, rfl, rfl⟩ := (he ▸ hf).unique hf'
    have hts' := hts hl'
    apply hn
    have hv : eC hs r knc = eClo ys q jnc := ef_val hf'
    have hle : ∀ t, ole (eC hs r knc t) (eC ys q jnc t) := fun t => by
      rw [hv]
      by_cases h0 : t = 0
      · subst h0
        show ole (oclo _ 0) _
        rw [clo_zero]
        exact fun y hy => ⟨0, rfl, (eC_bd g hy).1⟩
      · exact clo_le (by omega)
    have hat : ∀ t, 1 ≤ t → t < horC ys q hs r (comL q hs r) + comL q hs r → ∃ s, s < t ∧ CAtt ys q jnc hs r knc (horC ys q hs r (comL q hs r)) s t := fun t t1 t2 => catt_ex g hf'.good (fun t _ => by rw [hv]) hle hl' rfl t1 t2
    have h1' := hf'.good.p1; have h3' := hf'.good.p3
    have hN1 : 1 ≤ horC ys q hs r (comL q hs r) + comL q hs r := by unfold horC; omega
    refine ⟨norm_ef hf', ?_, hl', rfl, by rw [hts', firsts_length], hle, by rw [hv]; exact clo_sub _, ?_, fun t t1 t2 => ?_⟩
    · have e0 : eC hs r knc 0 = some 0 := by rw [hv]; exact clo_zero _
      have := (eC_bd hf'.good e0).2.2
      rwa [atC_lt (by omega)] at this
    · rw [hts', firsts_getD _ _ _ (by omega)]; rfl
    · rw [hts', firsts_length] at t2
      rw [hts', firsts_getD _ _ _ t2]
      exact ⟨_, rfl, (leastA_ex (hat t t1 t2)).1⟩
end

/-- Prove's result in the box b. -/
theorem clo_post {ys : List Int} {q : Nat} {jnc : Int} {w u : World} {b : Nat} (hB : Below w.heap.size w u) (hb : w.heap.size ≤ b) {a : Option Addr} {n cap : Nat} {hs : List Int} {r : Nat} {knc : Int} {F : Nat} (hF : horC ys q hs r (comL q hs r) = F) {at1 : Option Addr} {m mc : Nat} {ts : List Int} (h1 : RowZ u a n cap hs) (h2 : RowZ u at1 m mc ts) (hc : CloIs ys q jnc hs r knc ts) (x1 : ∀ x, a = some x → b < x.block) (x2 : ∀ x, at1 = some x → b < x.block) :
    GivesClo ys q jnc w (.returned (.tuple #[partsV a n cap r knc F at1 m mc, .int .i64 0])) (((((u.setCell ⟨b, 0, none⟩ (.slice a n cap)).setCell ⟨b, 1, none⟩ (.int .i64 r)).setCell ⟨b, 2, none⟩ (.int .i64 knc)).setCell ⟨b, 3, none⟩ (.int .i64 F)).setCell ⟨b, 4, none⟩ (.slice at1 m mc)) := by
  subst hF
  have k1 : ∀ x, a = some x → 1 ≤ n → x.block ≠ b := fun x h _ => by have := x1 x h; omega
  have k2 : ∀ x, at1 = some x → 1 ≤ m → x.block ≠ b := fun x h _ => by have := x2 x h; omega
  exact ⟨below_set5 hB hb _ _ _ _ _, .inl ⟨a, n, cap, hs, r, knc, at1, m, mc, ts, rfl, ((((h1.store k1 _ _).store k1 _ _).store k1 _ _).store k1 _ _).store k1 _ _, ((((h2.store k2 _ _).store k2 _ _).store k2 _ _).store k2 _ _).store k2 _ _, hc, fun x h => by have := x1 x h; omega, fun x h => by have := x2 x h; omega⟩⟩
theorem clo_nopost {ys : List Int} {q : Nat} {jnc : Int} {w u : World} {b : Nat} (hB : Below w.heap.size w u) (hb : w.heap.size ≤ b) (hno : ¬ CloCan ys q jnc) :
    GivesClo ys q jnc w (.returned (.tuple #[parts0, .int .i64 3])) (((((u.setCell ⟨b, 0, none⟩ (.slice none 0 0)).setCell ⟨b, 1, none⟩ (.int .i64 0)).setCell ⟨b, 2, none⟩ (.int .i64 0)).setCell ⟨b, 3, none⟩ (.int .i64 0)).setCell ⟨b, 4, none⟩ (.slice none 0 0)) := ⟨below_set5 hB hb _ _ _ _ _, .inr ⟨rfl, hno⟩⟩

set_option maxRecDepth 100000 in
set_option maxHeartbeats 6400000 in
theorem rprove9 (a : Option Addr) (n cap : Nat) (zs : List Int) (p : Nat) (inc : Int) (g : Good zs p inc) {ys : List Int} {q : Nat} {jnc : Int} (hn : NormC zs p inc ys q jnc) (w : World) (h : RowZ w a n cap zs) :
    Calls Try.prog 45 #[curV a n cap p inc] w (GivesClo ys q jnc w) := by
  obtain ⟨ii0, ihi, ihz0, ihz1, ihz2⟩ := info_parts info_int
  have G0 := Lib.hid g
  have HN := Lib.hid hn
  have GY := Lib.hid (hn.good g)
  obtain ⟨W, hW⟩ : ∃ W, (w.alloc (.cells #[.slice a n cap, .int .i64 p, .int .i64 inc] 24)).alloc (.cells #[.slice none 0 0, .int .i64 0, .int .i64 0, .int .i64 0, .slice none 0 0] 59) = W := ⟨_, rfl⟩
  have hB : Below w.heap.size w W := by rw [← hW]; exact ((Below.refl _ _).alloc (Nat.le_refl _) _).alloc (by simp) _
  have FB := Lib.hid (show Cur3 W w.heap.size (.slice a n cap) (.int .i64 p) (.int .i64 inc) by rw [← hW]; exact (Cur3.new w _ _ _ _).alloc _)
  have KR := Lib.hid (show P5 W (w.heap.size + 1) (.slice none 0 0) (.int .i64 0) (.int .i64 0) (.int .i64 0) (.slice none 0 0) by
    rw [← hW]
    have := p5_new (w.alloc (.cells #[.slice a n cap, .int .i64 p, .int .i64 inc] 24)) (.slice none 0 0) (.int .i64 0) (.int .i64 0) (.int .i64 0) (.slice none 0 0) 59
    rwa [show (w.alloc (.cells #[.slice a n cap, .int .i64 p, .int .i64 inc] 24)).heap.size = w.heap.size + 1 by simp] at this)
  have SZ := Lib.hid (show W.heap.size = w.heap.size + 2 by rw [← hW]; simp)
  have RR := Lib.hid (h.under hB)
  have BL := Lib.hid hB
  have HW := Lib.hid hW
  obtain ⟨c0, c1, c2, c3, c4, c5⟩ := FB.out
  clear g hn h hB hW
  go_enter Try.func45, Try.ntmps45
  go_upto_region 1 with fail
  try rw [HW.out]
  go_wp2_with fail
  clear c0 c1 c2 c3 c4 c5
  refine (rnormal_ok a n cap zs p inc G0.out _ RR.out).mono ?_
  rintro e v1 ⟨a3, n3, cap3, x1, q1, k1, rfl, hb, hr, hnn, hx⟩
  obtain ⟨rfl, rfl, rfl⟩ := hnn.canon G0.out G0.out HN.out (fun _ => rfl)
  obtain ⟨ya, rfl, _⟩ := hr.at 0 (by have := hr.len; have := GY.out.p1; have := GY.out.p3; omega)
  obtain ⟨W1, hw⟩ : ∃ u, v1.alloc (.cells #[.slice (some ya) n3 cap3, .int .i64 q1, .int .i64 k1] 24) = u := ⟨_, rfl⟩
  have hz : Below W.heap.size W W1 := by rw [← hw]; exact hb.trans ((below_box _).mono hb.size)
  obtain ⟨A, hA⟩ : ∃ H, v1.heap.size = H := ⟨_, rfl⟩
  have XA := Lib.hid (show Bx W1 A (some ya) n3 cap3 q1 k1 x1 by rw [← hw, ← hA]; exact Bx.new hr)
  have HAL := Lib.hid (show w.heap.size + 2 ≤ A by rw [← hA]; have := hb.size; have := SZ.out; omega)
  have KR1 := Lib.hid (KR.out.below hz)
  have BL1 := Lib.hid (BL.out.trans (hz.mono BL.out.size))
  have hlen : x1.length = n3 := hr.len
  have hfew : n3 ≤ 400 := by have := GY.out.few; omega
  have HW1 := Lib.hid hw
  have HAE := Lib.hid hA
  clear hb hr hnn hx hz hw hA FB KR RR BL HW
  go_upto_region 4 with fail
  try rw [HW1.out]
  try rw [HAE.out]
  clear HW1 HAE
  by_cases h60 : (60 : Int) < (n3 : Int)
  · have t1 : decide ((60 : Int) < (n3 : Int)) = true := decide_eq_true h60
    have HP := Lib.hid (show GivesClo x1 q1 k1 w _ _ from clo_nopost (b := w.heap.size + 1) BL1.out (by omega) (fun h => by have := h.1; omega))
    obtain ⟨c0, c1, c2, c3, c4, c5⟩ := XA.out.box
    obtain ⟨⟨r0, r1, r2, r3, r4, r5⟩, r6, r7, r8, r9⟩ := KR1.out
    go_wp2_with fail
    exact bodyPost_ret (v := .tuple #[parts0, .int .i64 3]) (by simp [results, Try.results45, go_sem, r0, r1, r2, r6, r7]) rfl HP.out
  have t1 : decide ((60 : Int) < (n3 : Int)) = false := decide_eq_false h60
  have H60 := Lib.hid (show x1.length ≤ 60 by omega)
  obtain ⟨c0, c1, c2, c3, c4, c5⟩ := XA.out.box
  go_wp2_with fail
  clear c0 c1 c2 c3 c4 c5 t1 h60
  refine (rguess9 (some ya) n3 cap3 x1 q1 k1 GY.out (encF (eClo x1 q1 k1)) rfl (fun p => cloY (eC x1 q1 k1) p) (fun p h1 h2 _ => cloy_raw GY.out h1 h2) (fun h => clo_vals GY.out h) _ XA.out.row).mono ?_
  rintro e v2 ⟨hb, ⟨pp, p1, p2, hfit, hleast, a4, n4, cap4, hs, r, knc, rfl, hr, hin, hgo, hno, hx⟩ | ⟨rfl, hno⟩⟩
  rotate_left
  · obtain ⟨W2, hw⟩ : ∃ u, v2.alloc (.cells #[.slice none 0 0, .int .i64 0, .int .i64 0] 24) = u := ⟨_, rfl⟩
    have hz : Below W1.heap.size W1 W2 := by rw [← hw]; exact hb.trans ((below_box _).mono hb.size)
    have HP := Lib.hid (show GivesClo x1 q1 k1 w _ _ from clo_nopost (b := w.heap.size + 1) (BL1.out.trans (hz.mono BL1.out.size)) (by omega) (guess_no GY.out hno))
    have KR2 := Lib.hid (KR1.out.below hz)
    have HW2 := Lib.hid hw
    clear hb hno hz hw
    go_upto_region 7 with fail
    try rw [HW2.out]
    obtain ⟨⟨r0, r1, r2, r3, r4, r5⟩, r6, r7, r8, r9⟩ := KR2.out
    go_wp2_with fail
    exact bodyPost_ret (v := .tuple #[parts0, .int .i64 3]) (by simp [results, Try.results45, go_sem, r0, r1, r2, r6, r7]) rfl HP.out
  obtain ⟨W2, hw⟩ : ∃ u, v2.alloc (.cells #[.slice a4 n4 cap4, .int .i64 r, .int .i64 knc] 24) = u := ⟨_, rfl⟩
  have hz : Below W1.heap.size W1 W2 := by rw [← hw]; exact hb.trans ((below_box _).mono hb.size)
  obtain ⟨H, hH⟩ : ∃ H, v2.heap.size = H := ⟨_, rfl⟩
  have XH := Lib.hid (show Bx W2 H a4 n4 cap4 r knc hs by rw [← hw, ← hH]; exact Bx.new hr)
  have HX4 := Lib.hid (show ∀ x, a4 = some x → w.heap.size + 1 < x.block from fun x e => by have := hx x e; have := XA.out.box.lt; have := HAL.out; omega)
  have XA2 := Lib.hid (XA.out.under hz)
  have KR2 := Lib.hid (KR1.out.below hz)
  have BL2 := Lib.hid (BL1.out.trans (hz.mono BL1.out.size))
  have FIT := Lib.hid (And.intro p1 (And.intro hfit hleast))
  have HIN := Lib.hid hin
  have HGO := Lib.hid (And.intro hgo hno)
  have HW2 := Lib.hid hw
  have HHE := Lib.hid hH
  clear hb hr hx hz hw hH hfit hleast hin hgo hno XA KR1 BL1
  go_upto_region 7 with fail
  try rw [HW2.out]
  try rw [HHE.out]
  clear HW2 HHE
  obtain ⟨c0, c1, c2, c3, c4, c5⟩ := XH.out.box
  go_wp2_with fail
  clear c0 c1 c2 c3 c4 c5
  obtain ⟨vb, hvb⟩ : ∃ b, okC hs r knc = b := ⟨_, rfl⟩
  have HVB := Lib.hid hvb
  refine (rvalid_any a4 n4 cap4 hs r knc HIN.out.1 HIN.out.2 vb HVB.out _ XH.out.row).mono ?_
  rintro e v3 ⟨rfl, hb⟩
  have XH3 := Lib.hid (XH.out.under hb)
  have XA3 := Lib.hid (XA2.out.under hb)
  have KR3 := Lib.hid (KR2.out.below hb)
  have BL3 := Lib.hid (BL2.out.trans (hb.mono BL2.out.size))
  clear hb hvb XH XA2 KR2 BL2
  cases vb with
  | false =>
    have HP := Lib.hid (show GivesClo x1 q1 k1 w _ _ from clo_nopost (b := w.heap.size + 1) BL3.out (by omega) (fun h => by
      have hng : ¬ Good hs r knc := fun k => by have := (okC_iff hs r knc).2 k; rw [HVB.out] at this; cases this
      obtain ⟨_, hs', r', knc', hf, _⟩ := h
      have he := guess_is GY.out FIT.out.1 FIT.out.2.1 FIT.out.2.2 hf
      exact HGO.out.2 hng (he ▸ hf.can)))
    obtain ⟨⟨r0, r1, r2, r3, r4, r5⟩, r6, r7, r8, r9⟩ := KR3.out
    go_wp2_with fail
    exact bodyPost_ret (v := .tuple #[parts0, .int .i64 3]) (by simp [results, Try.results45, go_sem, r0, r1, r2, r6, r7]) rfl HP.out
  | true =>
    have GH := Lib.hid ((okC_iff hs r knc).1 HVB.out)
    have FH := Lib.hid (HGO.out.1 GH.out)
    obtain ⟨ha, rfl, _⟩ := XH3.out.row.at 0 (by have := XH3.out.row.len; have := GH.out.p1; have := GH.out.p3; omega)
    obtain ⟨L, hL⟩ : ∃ L, comL q1 hs r = L := ⟨_, rfl⟩
    obtain ⟨F, hF⟩ : ∃ F, horC x1 q1 hs r L = F := ⟨_, rfl⟩
    have hLb : 1 ≤ L ∧ L ≤ 14400 := by
      have q1' := GY.out.p1; have q2 := GY.out.p2; have r1 := GH.out.p1; have r2 := GH.out.p2
      rw [← hL]
      refine ⟨comL_one q1' r1, ?_⟩
      by_cases hi : InfC hs
      · rw [comL_inf hi]; omega
      · rw [comL_fin hi]
        exact Nat.le_trans (Nat.mul_le_mul (Nat.div_le_self _ _) (Nat.le_refl _)) (Nat.le_trans (Nat.mul_le_mul q2 r2) (by omega))
    have hFb : F ≤ 20000 := by
      have := GY.out.few; have := GH.out.few
      rw [← hF]; unfold horC; omega
    have HLF := Lib.hid (And.intro hL hF)
    clear hL hF
    obtain ⟨c0, c1, c2, c3, c4, c5⟩ := XH3.out.box
    obtain ⟨d0, d1, d2, d3, d4, d5⟩ := XA3.out.box
    go_wp2_with fail
    clear c0 c1 c2 c3 c4 c5 d0 d1 d2 d3 d4 d5
    refine (rcommon9 (some ya) n3 cap3 x1 q1 k1 GY.out (some ha) n4 cap4 hs r knc GH.out L F HLF.out.1 HLF.out.2 _ XA3.out.row XH3.out.row).mono ?_
    rintro e v4 ⟨rfl, hb⟩
    have XH4 := Lib.hid (XH3.out.under hb)
    have XA4 := Lib.hid (XA3.out.under hb)
    have KR4 := Lib.hid (KR3.out.below hb)
    have BL4 := Lib.hid (BL3.out.trans (hb.mono BL3.out.size))
    clear hb XH3 XA3 KR3 BL3
    obtain ⟨W5, hw5⟩ : ∃ u, v4.alloc (.cells #[.slice (some ha) n4 cap4, .int .i64 r, .int .i64 knc, .int .i64 F, .slice none 0 0] 59) = u := ⟨_, rfl⟩
    obtain ⟨f, hf⟩ : ∃ f : Nat → Int, partsL x1 q1 k1 hs r knc = f := ⟨_, rfl⟩
    have HFD := Lib.hid hf
    have L0 := Lib.hid (show A5 v4 (some ha) n4 cap4 r knc F f 0 (.slice none 0 0) W5 by rw [← hw5]; exact A5.start v4 _ _ _ _ _ _ _)
    have HW5 := Lib.hid hw5
    obtain ⟨c0, c1, c2, c3, c4, c5⟩ := XH4.out.box
    clear hf hw5
    go_upto_region 11 with fail
    try rw [HW5.out]
    clear c0 c1 c2 c3 c4 c5 HW5
    have hsum : (F : Int) + (L : Int) = ((F + L : Nat) : Int) := by omega
    obtain ⟨N, hN⟩ : ∃ N, F + L = N := ⟨_, rfl⟩
    rw [hN] at hsum
    have hNw : IntKind.i64.wrap (N : Int) = (N : Int) := IntWalk.i64_in _ ⟨by omega, by omega⟩
    have HNN := Lib.hid hN
    have hNb : 1 ≤ N ∧ N ≤ 40000 := by omega
    clear hN
    go_wp2_with fail
    have NY := Lib.hid (norm_twice HN.out G0.out)
    have FLB := Lib.hid (show F ≤ 20000 ∧ L ≤ 14400 from ⟨hFb, hLb.2⟩)
    clear hFb hLb
    go_loopw [11] (fun sl wx => ∃ (k : Nat) (sv : Value), sl = .int .i64 k ∧ k ≤ N ∧ Hid ((k = 0 ∧ sv = .slice none 0 0) ∨ (L : Int) ≤ 120) ∧ Hid (A5 v4 (some ha) n4 cap4 r knc F f k sv wx)) (fun sl _ => N - (intOf sl).toNat)
    case atStart => exact ⟨0, .slice none 0 0, by go_num, by omega, .inl ⟨rfl, rfl⟩, L0⟩
    case round =>
      clear L0
      obtain ⟨k, sv, rfl, hk, HK0, HS⟩ := hrel
      obtain ⟨wk, rfl⟩ : ∃ u : World, u = wr := ⟨_, rfl⟩
      by_cases hlt : k < N
      · have hlti : (k : Int) < (N : Int) := by omega
        by_cases hL120 : (L : Int) ≤ 120
        · have t1 : decide ((L : Int) ≤ 120) = true := decide_eq_true hL120
          obtain ⟨T, hT, hTk, hTn, hTy⟩ : ∃ T : Nat, f k = (T : Int) ∧ T ≤ k ∧ (∀ u, u < T → ¬ CAtt x1 q1 k1 hs r knc F u k) ∧ (T = k ∨ CAtt x1 q1 k1 hs r knc F T k) := by
            obtain ⟨l1, l2, l3, l4⟩ := leastA_spec (P := fun s => CAtt x1 q1 k1 hs r knc (horC x1 q1 hs r (comL q1 hs r)) s k) (n := k) (s := 0)
            rw [HLF.out.1, HLF.out.2] at l1 l2 l3 l4
            refine ⟨leastA (fun s => CAtt x1 q1 k1 hs r knc F s k) k 0, by rw [← HFD.out]; unfold partsL; rw [HLF.out.1, HLF.out.2], by omega, fun u hu => l1 u (Nat.zero_le _) hu, ?_⟩
            rcases l4 with h | h
            · exact .inl (by omega)
            · exact .inr h
          have HTT := Lib.hid (And.intro hT (And.intro hTk (And.intro hTn hTy)))
          have HFC := Lib.hid (show ∀ j : Nat, j < k → (Fit9 x1 q1 k1 hs r knc L F k (j : Int) ↔ CAtt x1 q1 k1 hs r knc F j k) from fun j hj => by
            have := fit_catt GY.out GH.out (t := k) (by omega) (j : Int)
            rw [HLF.out.1, HLF.out.2] at this
            rw [this]
            exact ⟨fun ⟨u, e, h⟩ => by obtain rfl : j = u := by omega
                                       exact h, fun h => ⟨j, rfl, h⟩⟩)
          clear hT hTn hTy
          go_wp2_with fail
          go_loopw [12] (fun sl wx => ∃ j : Nat, sl = .int .i64 j ∧ j ≤ T ∧ Hid (A5 v4 (some ha) n4 cap4 r knc F f k sv wx)) (fun sl _ => T - (intOf sl).toNat)
          case atStart => exact ⟨0, by go_num, by omega, HS⟩
          case round =>
            clear HS
            obtain ⟨j, rfl, hj, HU⟩ := hrel
            obtain ⟨w6, rfl⟩ : ∃ u : World, u = wr := ⟨_, rfl⟩
            by_cases hjk : j < k
            · have hjki : (j : Int) < (k : Int) := by omega
              obtain ⟨c0, c1, c2, c3, c4, c5⟩ := XA4.out.box.below HU.out.below
              obtain ⟨d0, d1, d2, d3, d4, d5⟩ := XH4.out.box.below HU.out.below
              by_cases hjT : j = T
              · have HJT := Lib.hid hjT
                have HB9 := Lib.hid (show Fit9 x1 q1 k1 hs r knc L F k (j : Int) from (HFC.out j hjk).2 (by rcases HTT.out.2.2.2 with h | h; omega; rw [hjT]; exact h))
                clear hjT
                go_wp2_with fail
                clear c0 c1 c2 c3 c4 c5 d0 d1 d2 d3 d4 d5
                with_reducible refine (rfits9 ya n3 cap3 x1 q1 k1 ha n4 cap4 hs r knc L F k GY.out GH.out (by omega) (by have := FLB.out; omega) (by omega) (j : Int) true ⟨fun _ => HB9.out, fun _ => rfl⟩ _ (XA4.out.row.under HU.out.below) (XH4.out.row.under HU.out.below)).mono ?_
                rintro e w7 ⟨rfl, hb⟩
                have HU3 := Lib.hid (HU.out.under hb)
                have hjT := HJT.out
                clear hb HU
                clear HJT
                subst hjT
                have N8 : Hid (∀ q u, [Value.int .i64 (j : Int)][q]? = some u → (w7.alloc (.cells #[.int .i64 (j : Int)] 3)).cell? ((⟨w7.heap.size, 0, none⟩ : Addr).add q) = some u) := Lib.hid (World.news_of_block (cs := #[.int .i64 (j : Int)]) (t := 3) (fr := (0, 0)) (heap_alloc_new w7 _))
                have L8 := Lib.hid (HU3.out.under ((Below.refl _ _).alloc (Nat.le_refl _) (.cells #[.int .i64 (j : Int)] 3)))
                obtain ⟨⟨o0, o1, o2, o3, o4, o5⟩, o6, o7, o8, o9⟩ := HU3.out.out
                go_wp2_with (at_builtin; refine wpList_append_own _ rfl _ _ 22 rfl (v4.heap.size + 1) 3 ii0 (.int .i64 0) 1 8 Try.underlying22 ihi ihz0 ihz1 ihz2 rfl (by decide) _ _ _ rfl L8.out.own ⟨w7.heap.size, 0, none⟩ 1 1 [.int .i64 (j : Int)] rfl rfl N8.out ?c2 ?c3 ?c4 ?c5 ?_)
                case c2 => first | rfl | (intro u hu; simp at hu; subst hu; rfl)
                case c3 => unfold maxLen; omega
                case c4 => omega
                case c5 => first | exact L8.out.out.lo.lt | (have := HU3.out.out.lo.lt; omega)
                intro v' w9 hown' hgrow _
                obtain ⟨g9, cap9, rfl, hg9, hg9'⟩ := hown'.form (Nat.succ_pos _)
                obtain ⟨lnext, kout⟩ := L8.out.push hown' hgrow HTT.out.1
                have L10 := Lib.hid lnext
                clear hown' hgrow lnext o0 o1 o2 o3 o4 o5 o6 o7 o8 o9
                obtain ⟨⟨o0, o1, o2, o3, o4, o5⟩, o6, o7, o8, o9⟩ := kout
                go_wp2_with fail
                go_roundw
                case rel => exact ⟨k + 1, _, by go_num, by omega, .inr hL120, L10⟩
                case measure => simp [intOf]; omega
              · have HB9 := Lib.hid (show ¬ Fit9 x1 q1 k1 hs r knc L F k (j : Int) from fun h => absurd ((HFC.out j hjk).1 h) (HTT.out.2.2.1 j (by omega)))
                go_wp2_with fail
                clear c0 c1 c2 c3 c4 c5 d0 d1 d2 d3 d4 d5
                with_reducible refine (rfits9 ya n3 cap3 x1 q1 k1 ha n4 cap4 hs r knc L F k GY.out GH.out (by omega) (by have := FLB.out; omega) (by omega) (j : Int) false ⟨fun h => (by cases h), fun h => absurd h HB9.out⟩ _ (XA4.out.row.under HU.out.below) (XH4.out.row.under HU.out.below)).mono ?_
                rintro e w7 ⟨rfl, hb⟩
                have HU3 := Lib.hid (HU.out.under hb)
                clear hb HU
                go_wp2_with fail
                go_roundw
                case rel => exact ⟨j + 1, by go_num, by omega, HU3⟩
                case measure => simp [intOf]; omega
            · have hjki : ¬ (j : Int) < (k : Int) := by omega
              have HJT := Lib.hid (show j = T by omega)
              have HU3 := HU
              obtain ⟨w7, hw7⟩ : ∃ u, u = w6 := ⟨_, rfl⟩
              subst hw7
              clear HU
              have hjT := HJT.out
              clear HJT
              subst hjT
              have N8 : Hid (∀ q u, [Value.int .i64 (j : Int)][q]? = some u → (w7.alloc (.cells #[.int .i64 (j : Int)] 3)).cell? ((⟨w7.heap.size, 0, none⟩ : Addr).add q) = some u) := Lib.hid (World.news_of_block (cs := #[.int .i64 (j : Int)]) (t := 3) (fr := (0, 0)) (heap_alloc_new w7 _))
              have L8 := Lib.hid (HU3.out.under ((Below.refl _ _).alloc (Nat.le_refl _) (.cells #[.int .i64 (j : Int)] 3)))
              obtain ⟨⟨o0, o1, o2, o3, o4, o5⟩, o6, o7, o8, o9⟩ := HU3.out.out
              go_wp2_with (at_builtin; refine wpList_append_own _ rfl _ _ 22 rfl (v4.heap.size + 1) 3 ii0 (.int .i64 0) 1 8 Try.underlying22 ihi ihz0 ihz1 ihz2 rfl (by decide) _ _ _ rfl L8.out.own ⟨w7.heap.size, 0, none⟩ 1 1 [.int .i64 (j : Int)] rfl rfl N8.out ?c2 ?c3 ?c4 ?c5 ?_)
              case c2 => first | rfl | (intro u hu; simp at hu; subst hu; rfl)
              case c3 => unfold maxLen; omega
              case c4 => omega
              case c5 => first | exact L8.out.out.lo.lt | (have := HU3.out.out.lo.lt; omega)
              intro v' w9 hown' hgrow _
              obtain ⟨g9, cap9, rfl, hg9, hg9'⟩ := hown'.form (Nat.succ_pos _)
              obtain ⟨lnext, kout⟩ := L8.out.push hown' hgrow HTT.out.1
              have L10 := Lib.hid lnext
              clear hown' hgrow lnext o0 o1 o2 o3 o4 o5 o6 o7 o8 o9
              obtain ⟨⟨o0, o1, o2, o3, o4, o5⟩, o6, o7, o8, o9⟩ := kout
              go_wp2_with fail
              go_roundw
              case rel => exact ⟨k + 1, _, by go_num, by omega, .inr hL120, L10⟩
              case measure => simp [intOf]; omega
        · have t1 : decide ((L : Int) ≤ 120) = false := decide_eq_false hL120
          obtain ⟨rfl, rfl⟩ := HK0.out.resolve_right hL120
          have RL := Lib.hid (rowZ_none wk)
          have HCF := Lib.hid (show L ≤ 120 → [] = firsts (partsL x1 q1 k1 hs r knc) (F + L) from fun h => absurd (by omega) hL120)
          have HHC := Lib.hid (show horC x1 q1 hs r (comL q1 hs r) = F by rw [HLF.out.1]; exact HLF.out.2)
          obtain ⟨b, HB⟩ : ∃ b : Bool, Hid (b = true ↔ CheckIs x1 q1 k1 hs r knc (F : Int) []) := by
            by_cases h : CheckIs x1 q1 k1 hs r knc (F : Int) []
            · exact ⟨true, fun _ => h, fun _ => rfl⟩
            · exact ⟨false, fun q => (by cases q), fun k => absurd k h⟩
          have HCC := Lib.hid (check_clo GY.out H60.out FIT.out.1 FIT.out.2.1 FIT.out.2.2 FH.out HLF.out.1 HLF.out.2 [] HCF.out)
          obtain ⟨⟨o0, o1, o2, o3, o4, o5⟩, o6, o7, o8, o9⟩ := HS.out.out
          obtain ⟨c0, c1, c2, c3, c4, c5⟩ := XA4.out.box.below HS.out.below
          go_wp2_with fail
          clear o0 o1 o2 o3 o4 o5 o6 o7 o8 o9 c0 c1 c2 c3 c4 c5
          with_reducible refine (rcheck9 (some ya) n3 cap3 x1 q1 k1 (some ha) n4 cap4 hs r knc (F : Int) none 0 0 [] GY.out NY.out GH.out ⟨by omega, by have := FLB.out; omega⟩ b HB.out _ (XA4.out.row.under HS.out.below) (XH4.out.row.under HS.out.below) RL.out).mono ?_
          rintro e w9 ⟨rfl, hb⟩
          have HS9 := Lib.hid (HS.out.under hb)
          have RL9 := Lib.hid (RL.out.under hb)
          clear hb HS RL
          obtain ⟨⟨r0, r1, r2, r3, r4, r5⟩, r6, r7, r8, r9⟩ := KR4.out.below HS9.out.below
          cases b with
          | false =>
            have HP := Lib.hid (show GivesClo x1 q1 k1 w _ _ from clo_nopost (b := w.heap.size + 1) (BL4.out.trans (HS9.out.below.mono BL4.out.size)) (by omega) (HCC.out.2 fun h => (by have := HB.out.2 h; cases this)))
            go_wp2_with fail
            exact bodyPost_ret (v := .tuple #[parts0, .int .i64 3]) (by simp [results, Try.results45, go_sem, r0, r1, r2, r6, r7]) rfl HP.out
          | true =>
            have HP := Lib.hid (show GivesClo x1 q1 k1 w _ _ from clo_post (F := F) (b := w.heap.size + 1) (BL4.out.trans (HS9.out.below.mono BL4.out.size)) (by omega) (HHC.out) (XH4.out.row.under HS9.out.below) RL9.out (HCC.out.1 (HB.out.1 rfl)) HX4.out (fun x h => (by cases h)))
            obtain ⟨⟨o0, o1, o2, o3, o4, o5⟩, o6, o7, o8, o9⟩ := HS9.out.out
            go_wp2_with fail
            exact bodyPost_ret (v := .tuple #[partsV (some ha) n4 cap4 r knc F none 0 0, .int .i64 0]) (by simp [results, Try.results45, go_sem, r0, r1, r2, r6, r7]) rfl HP.out
      · have hlti : ¬ (k : Int) < (N : Int) := by omega
        have HKN := Lib.hid (show k = N by omega)
        have hL120 : (L : Int) ≤ 120 := by
          rcases HK0.out with ⟨h, _⟩ | h
          · have := HKN.out; omega
          · exact h
        have HIN2 := Lib.hid (show ∀ t, t < k → In64 (f t) from fun t ht => by
          obtain ⟨_, _, l3, _⟩ := leastA_spec (P := fun s => CAtt x1 q1 k1 hs r knc (horC x1 q1 hs r (comL q1 hs r)) s t) (n := t) (s := 0)
          rw [← HFD.out]
          unfold partsL
          exact ⟨by omega, by omega⟩)
        obtain ⟨g, cg, rfl, hRL, XL⟩ := HS.out.row (by omega) (by omega) HIN2.out
        have RL := Lib.hid hRL
        have HXL := Lib.hid XL
        have HCF := Lib.hid (show L ≤ 120 → firsts f k = firsts (partsL x1 q1 k1 hs r knc) (F + L) from fun _ => by rw [HFD.out, HNN.out, HKN.out])
        clear hRL XL
        have HHC := Lib.hid (show horC x1 q1 hs r (comL q1 hs r) = F by rw [HLF.out.1]; exact HLF.out.2)
        obtain ⟨b, HB⟩ : ∃ b : Bool, Hid (b = true ↔ CheckIs x1 q1 k1 hs r knc (F : Int) (firsts f k)) := by
          by_cases h : CheckIs x1 q1 k1 hs r knc (F : Int) (firsts f k)
          · exact ⟨true, fun _ => h, fun _ => rfl⟩
          · exact ⟨false, fun q => (by cases q), fun k => absurd k h⟩
        have HCC := Lib.hid (check_clo GY.out H60.out FIT.out.1 FIT.out.2.1 FIT.out.2.2 FH.out HLF.out.1 HLF.out.2 (firsts f k) HCF.out)
        obtain ⟨⟨o0, o1, o2, o3, o4, o5⟩, o6, o7, o8, o9⟩ := HS.out.out
        obtain ⟨c0, c1, c2, c3, c4, c5⟩ := XA4.out.box.below HS.out.below
        go_wp2_with fail
        clear o0 o1 o2 o3 o4 o5 o6 o7 o8 o9 c0 c1 c2 c3 c4 c5
        with_reducible refine (rcheck9 (some ya) n3 cap3 x1 q1 k1 (some ha) n4 cap4 hs r knc (F : Int) (some ⟨g, 0, none⟩) k cg (firsts f k) GY.out NY.out GH.out ⟨by omega, by have := FLB.out; omega⟩ b HB.out _ (XA4.out.row.under HS.out.below) (XH4.out.row.under HS.out.below) RL.out).mono ?_
        rintro e w9 ⟨rfl, hb⟩
        have HS9 := Lib.hid (HS.out.under hb)
        have RL9 := Lib.hid (RL.out.under hb)
        clear hb HS RL
        obtain ⟨⟨r0, r1, r2, r3, r4, r5⟩, r6, r7, r8, r9⟩ := KR4.out.below HS9.out.below
        cases b with
        | false =>
          have HP := Lib.hid (show GivesClo x1 q1 k1 w _ _ from clo_nopost (b := w.heap.size + 1) (BL4.out.trans (HS9.out.below.mono BL4.out.size)) (by omega) (HCC.out.2 fun h => (by have := HB.out.2 h; cases this)))
          go_wp2_with fail
          exact bodyPost_ret (v := .tuple #[parts0, .int .i64 3]) (by simp [results, Try.results45, go_sem, r0, r1, r2, r6, r7]) rfl HP.out
        | true =>
          have HP := Lib.hid (show GivesClo x1 q1 k1 w _ _ from clo_post (F := F) (b := w.heap.size + 1) (BL4.out.trans (HS9.out.below.mono BL4.out.size)) (by omega) (HHC.out) (XH4.out.row.under HS9.out.below) RL9.out (HCC.out.1 (HB.out.1 rfl)) HX4.out (fun x h => (by cases h; exact Nat.lt_trans KR4.out.lt HXL.out)))
          obtain ⟨⟨o0, o1, o2, o3, o4, o5⟩, o6, o7, o8, o9⟩ := HS9.out.out
          go_wp2_with fail
          exact bodyPost_ret (v := .tuple #[partsV (some ha) n4 cap4 r knc F (some ⟨g, 0, none⟩) k cg, .int .i64 0]) (by simp [results, Try.results45, go_sem, r0, r1, r2, r6, r7]) rfl HP.out

end Go.Proofs.Ytjjaaknjdmijbaa
