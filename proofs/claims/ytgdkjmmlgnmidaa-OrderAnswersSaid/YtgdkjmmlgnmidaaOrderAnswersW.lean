/- The walk of OrderAnswers. By the verifier's side. -/
import Derived.Test.YtgdkjmmlgnmidaaOrdS
import Derived.Test.YtgdkjmmlgnmidaaCurveAnswersW
namespace Go.Proofs.Ytgdkjmmlgnmidaa
open Go.RowKit
set_option linter.unusedSimpArgs false

theorem okC_nat {zs : List Int} {p inc : Int} (h : okC zs p inc = true) : ∃ P : Nat, p = P ∧ Good zs P inc := okC_pos h

/-- The three answers, at whatever curves. -/
def CmpU (R : (Nat → Int) → Int → Bool → Prop) (zs : List Int) (p inc : Int) (ys : List Int) (q jnc : Int) (t : Int) (ok : Bool) (e : Int) : Prop :=
  (∃ P Q : Nat, p = P ∧ q = Q ∧ Good zs P inc ∧ Good ys Q jnc ∧ R (dC zs P inc ys Q jnc) t ok ∧ e = 0) ∨ ((okC zs p inc = false ∨ okC ys q jnc = false) ∧ t = 0 ∧ ok = false ∧ e = 1)
theorem cmpU_ex {R : (Nat → Int) → Int → Bool → Prop} (hR : ∀ d, ∃ t ok, R d t ok) (zs : List Int) (p inc : Int) (ys : List Int) (q jnc : Int) : ∃ t ok e, CmpU R zs p inc ys q jnc t ok e := by
  by_cases h1 : okC zs p inc = true
  · by_cases h2 : okC ys q jnc = true
    · obtain ⟨P, hp, g⟩ := okC_nat h1
      obtain ⟨Q, hq, k⟩ := okC_nat h2
      obtain ⟨t, ok, hr⟩ := hR (dC zs P inc ys Q jnc)
      exact ⟨t, ok, 0, .inl ⟨P, Q, hp, hq, g, k, hr, rfl⟩⟩
    · exact ⟨0, false, 1, .inr ⟨.inr (by simpa using h2), rfl, rfl, rfl⟩⟩
  · exact ⟨0, false, 1, .inr ⟨.inl (by simpa using h1), rfl, rfl, rfl⟩⟩
theorem cmpU_code {R : (Nat → Int) → Int → Bool → Prop} {zs : List Int} {p inc : Int} {ys : List Int} {q jnc t : Int} {ok : Bool} {e : Int} (h : CmpU R zs p inc ys q jnc t ok e) : e = 0 ∨ e = 1 := by
  rcases h with ⟨_, _, _, _, _, _, _, h⟩ | ⟨_, _, _, h⟩
  · exact .inl h
  · exact .inr h
section
variable (a : Option Addr) (n cap : Nat) (zs : List Int) (p inc : Int) (hp : In64 p) (hi : In64 inc) (a2 : Option Addr) (n2 cap2 : Nat) (ys : List Int) (q jnc : Int) (hq : In64 q) (hj : In64 jnc) (t : Int) (ok : Bool) (e : Int)
    (w : World) (h : RowZ w a n cap zs) (h2 : RowZ w a2 n2 cap2 ys)
include hp hi hq hj h h2
theorem exceeds_u (hE : CmpU ExcP zs p inc ys q jnc t ok e) : Calls Try.prog 16 #[curV a n cap p inc, curV a2 n2 cap2 q jnc] w (Tick3 t ok e w) := by
  rcases hE with ⟨P, Q, rfl, rfl, g, k, hR, rfl⟩ | ⟨hv, rfl, rfl, rfl⟩
  · exact exceeds_ok a n cap zs P inc g a2 n2 cap2 ys Q jnc k t ok w h h2 hR
  · exact exceeds_bad a n cap zs p inc hp hi a2 n2 cap2 ys q jnc hq hj hv w h h2
theorem rexceeds_u (hE : CmpU ExcP zs p inc ys q jnc t ok e) : Calls Try.prog 17 #[curV a n cap p inc, curV a2 n2 cap2 q jnc] w (Tick3 t ok e w) := by
  rcases hE with ⟨P, Q, rfl, rfl, g, k, hR, rfl⟩ | ⟨hv, rfl, rfl, rfl⟩
  · exact rexceeds_ok a n cap zs P inc g a2 n2 cap2 ys Q jnc k t ok w h h2 hR
  · exact rexceeds_bad a n cap zs p inc hp hi a2 n2 cap2 ys q jnc hq hj hv w h h2
theorem settles_u (hE : CmpU SetP zs p inc ys q jnc t ok e) : Calls Try.prog 20 #[curV a n cap p inc, curV a2 n2 cap2 q jnc] w (Tick3 t ok e w) := by
  rcases hE with ⟨P, Q, rfl, rfl, g, k, hR, rfl⟩ | ⟨hv, rfl, rfl, rfl⟩
  · exact settles_ok a n cap zs P inc g a2 n2 cap2 ys Q jnc k t ok w h h2 hR
  · exact settles_bad a n cap zs p inc hp hi a2 n2 cap2 ys q jnc hq hj hv w h h2
theorem rsettles_u (hE : CmpU SetP zs p inc ys q jnc t ok e) : Calls Try.prog 21 #[curV a n cap p inc, curV a2 n2 cap2 q jnc] w (Tick3 t ok e w) := by
  rcases hE with ⟨P, Q, rfl, rfl, g, k, hR, rfl⟩ | ⟨hv, rfl, rfl, rfl⟩
  · exact rsettles_ok a n cap zs P inc g a2 n2 cap2 ys Q jnc k t ok w h h2 hR
  · exact rsettles_bad a n cap zs p inc hp hi a2 n2 cap2 ys q jnc hq hj hv w h h2
theorem meets_u (hE : CmpU MeetP zs p inc ys q jnc t ok e) : Calls Try.prog 22 #[curV a n cap p inc, curV a2 n2 cap2 q jnc] w (Tick3 t ok e w) := by
  rcases hE with ⟨P, Q, rfl, rfl, g, k, hR, rfl⟩ | ⟨hv, rfl, rfl, rfl⟩
  · exact meets_ok a n cap zs P inc g a2 n2 cap2 ys Q jnc k t ok w h h2 hR
  · exact meets_bad a n cap zs p inc hp hi a2 n2 cap2 ys q jnc hq hj hv w h h2

set_option maxHeartbeats 1600000 in
theorem rmeets_bad (hv : okC zs p inc = false ∨ okC ys q jnc = false) : Calls Try.prog 23 #[curV a n cap p inc, curV a2 n2 cap2 q jnc] w (Tick3 0 false 1 w) := by
  have hB := two_boxes w (.cells #[.slice a n cap, .int .i64 p, .int .i64 inc] 24) (.cells #[.slice a2 n2 cap2, .int .i64 q, .int .i64 jnc] 24)
  have HBl := Lib.hid hB
  have H := Lib.hid (h.under hB)
  have H2 := Lib.hid (h2.under hB)
  have KF := Lib.hid ((Cur3.new w (.slice a n cap) (.int .i64 p) (.int .i64 inc) 24).alloc (.cells #[.slice a2 n2 cap2, .int .i64 q, .int .i64 jnc] 24))
  have KG := Lib.hid (Cur3.new2 w (.slice a2 n2 cap2) (.int .i64 q) (.int .i64 jnc) 24 (.cells #[.slice a n cap, .int .i64 p, .int .i64 inc] 24))
  have HV := Lib.hid hv
  clear h h2 hB hv
  go_enter Try.func23, Try.ntmps23
  go_wp2_with fail
  generalize (w.alloc (.cells #[.slice a n cap, .int .i64 p, .int .i64 inc] 24)).alloc (.cells #[.slice a2 n2 cap2, .int .i64 q, .int .i64 jnc] 24) = w0 at HBl H H2 KF KG ⊢
  refine (rsettles_bad a n cap zs p inc hp hi a2 n2 cap2 ys q jnc hq hj HV.out _ H.out H2.out).mono ?_
  rintro e w1 ⟨rfl, hb⟩
  have HB1 := Lib.hid (HBl.out.trans (hb.mono HBl.out.size))
  have H3 := Lib.hid (H.out.under hb)
  have H4 := Lib.hid (H2.out.under hb)
  obtain ⟨c0, c1, c2, f0, f1, f2⟩ := KF.out.below hb
  obtain ⟨d0, d1, d2, g0, g1, g2⟩ := KG.out.below hb
  clear hb
  go_wp2_with fail
  clear c0 c1 c2 f0 f1 f2 d0 d1 d2 g0 g1 g2
  refine (rsettles_bad a2 n2 cap2 ys q jnc hq hj a n cap zs p inc hp hi HV.out.symm _ H4.out H3.out).mono ?_
  rintro e w2 ⟨rfl, hb⟩
  have HB2 := Lib.hid (HB1.out.trans (hb.mono HB1.out.size))
  clear hb
  go_wp2_with fail
  exact bodyPost_ret (v := .tuple #[.int .i64 0, .bool false, .int .i64 1]) (by simp [results, Try.results23, go_sem]) rfl ⟨rfl, HB2.out⟩
theorem rmeets_u (hE : CmpU MeetP zs p inc ys q jnc t ok e) : Calls Try.prog 23 #[curV a n cap p inc, curV a2 n2 cap2 q jnc] w (Tick3 t ok e w) := by
  rcases hE with ⟨P, Q, rfl, rfl, g, k, hR, rfl⟩ | ⟨hv, rfl, rfl, rfl⟩
  · exact rmeets_ok a n cap zs P inc g a2 n2 cap2 ys Q jnc k t ok w h h2 hR
  · exact rmeets_bad a n cap zs p inc hp hi a2 n2 cap2 ys q jnc hq hj w h h2 hv

set_option maxHeartbeats 1600000 in
theorem atMost_u (hE : CmpU ExcP zs p inc ys q jnc t ok e) (b : Bool) (hb : (decide (e = 0) && !ok) = b) : Calls Try.prog 18 #[curV a n cap p inc, curV a2 n2 cap2 q jnc] w (Says (.bool b) w) := by
  have hB := two_boxes w (.cells #[.slice a n cap, .int .i64 p, .int .i64 inc] 24) (.cells #[.slice a2 n2 cap2, .int .i64 q, .int .i64 jnc] 24)
  have HBl := Lib.hid hB
  have H := Lib.hid (h.under hB)
  have H2 := Lib.hid (h2.under hB)
  have HE := Lib.hid hE
  have hc := cmpU_code hE
  clear h h2 hB hE
  go_enter Try.func18, Try.ntmps18
  go_wp2_with fail
  refine (exceeds_u a n cap zs p inc hp hi a2 n2 cap2 ys q jnc hq hj t ok e _ H.out H2.out HE.out).mono ?_
  rintro e' w1 ⟨rfl, hb1⟩
  have HB1 := Lib.hid (HBl.out.trans (hb1.mono HBl.out.size))
  clear hb1 HE
  rcases hc with rfl | rfl
  · cases ok with
    | true =>
      obtain rfl : b = false := by rw [← hb]; rfl
      clear hb
      go_wp2_with fail
      go_ret
      exact ⟨rfl, HB1.out⟩
    | false =>
      obtain rfl : b = true := by rw [← hb]; rfl
      clear hb
      go_wp2_with fail
      go_ret
      exact ⟨rfl, HB1.out⟩
  · obtain rfl : b = false := by rw [← hb]; rfl
    clear hb
    go_wp2_with fail
    go_ret
    exact ⟨rfl, HB1.out⟩

set_option maxHeartbeats 1600000 in
theorem ratMost_u (hE : CmpU ExcP zs p inc ys q jnc t ok e) (b : Bool) (hb : (decide (e = 0) && !ok) = b) : Calls Try.prog 19 #[curV a n cap p inc, curV a2 n2 cap2 q jnc] w (Says (.bool b) w) := by
  have hB := two_boxes w (.cells #[.slice a n cap, .int .i64 p, .int .i64 inc] 24) (.cells #[.slice a2 n2 cap2, .int .i64 q, .int .i64 jnc] 24)
  have HBl := Lib.hid hB
  have H := Lib.hid (h.under hB)
  have H2 := Lib.hid (h2.under hB)
  have HE := Lib.hid hE
  have hc := cmpU_code hE
  clear h h2 hB hE
  go_enter Try.func19, Try.ntmps19
  go_wp2_with fail
  refine (rexceeds_u a n cap zs p inc hp hi a2 n2 cap2 ys q jnc hq hj t ok e _ H.out H2.out HE.out).mono ?_
  rintro e' w1 ⟨rfl, hb1⟩
  have HB1 := Lib.hid (HBl.out.trans (hb1.mono HBl.out.size))
  clear hb1 HE
  rcases hc with rfl | rfl
  · cases ok with
    | true =>
      obtain rfl : b = false := by rw [← hb]; rfl
      clear hb
      go_wp2_with fail
      go_ret
      exact ⟨rfl, HB1.out⟩
    | false =>
      obtain rfl : b = true := by rw [← hb]; rfl
      clear hb
      go_wp2_with fail
      go_ret
      exact ⟨rfl, HB1.out⟩
  · obtain rfl : b = false := by rw [← hb]; rfl
    clear hb
    go_wp2_with fail
    go_ret
    exact ⟨rfl, HB1.out⟩
end

theorem Curs.below {w u : World} {b B N : Nat} (h : Curs w b B N) (hb : Below w.heap.size w u) : Curs u b B N := fun k hk => by
  obtain ⟨a, n, cap, zs, p, inc, h1, h2, h3, h4⟩ := h k hk
  exact ⟨a, n, cap, zs, p, inc, h1.below hb, (hb.cell (lt_of_cell h2)).trans h2, (hb.cell (lt_of_cell h3)).trans h3, (hb.cell (lt_of_cell h4)).trans h4⟩
section
variable {w : World} {b : Nat} {a1 a2 a3 a4 a5 a6 : Option Addr} {n1 n2 n3 n4 n5 n6 c1 c2 c3 c4 c5 c6 : Nat} {z1 z2 z3 z4 z5 z6 : List Int} {p1 p2 p3 p4 p5 p6 i1 i2 i3 i4 i5 i6 : Int} {t : TypeId}
theorem curs6 (h1 : CurIn w b a1 n1 c1 z1 p1 i1) (h2 : CurIn w b a2 n2 c2 z2 p2 i2) (h3 : CurIn w b a3 n3 c3 z3 p3 i3) (h4 : CurIn w b a4 n4 c4 z4 p4 i4) (h5 : CurIn w b a5 n5 c5 z5 p5 i5) (h6 : CurIn w b a6 n6 c6 z6 p6 i6) :
    Curs (w.alloc (.cells #[.slice a1 n1 c1, .int .i64 p1, .int .i64 i1, .slice a2 n2 c2, .int .i64 p2, .int .i64 i2, .slice a3 n3 c3, .int .i64 p3, .int .i64 i3, .slice a4 n4 c4, .int .i64 p4, .int .i64 i4, .slice a5 n5 c5, .int .i64 p5, .int .i64 i5, .slice a6 n6 c6, .int .i64 p6, .int .i64 i6] t)) b w.heap.size 6 := fun k hk => by
  have hb := fun o => (Below.refl w.heap.size w).alloc (Nat.le_refl _) o
  have hk5 : k = 0 ∨ k = 1 ∨ k = 2 ∨ k = 3 ∨ k = 4 ∨ k = 5 := by omega
  rcases hk5 with rfl | rfl | rfl | rfl | rfl | rfl
  · exact ⟨_, _, _, _, _, _, h1.below (hb _), cell_new rfl, cell_new rfl, cell_new rfl⟩
  · exact ⟨_, _, _, _, _, _, h2.below (hb _), cell_new rfl, cell_new rfl, cell_new rfl⟩
  · exact ⟨_, _, _, _, _, _, h3.below (hb _), cell_new rfl, cell_new rfl, cell_new rfl⟩
  · exact ⟨_, _, _, _, _, _, h4.below (hb _), cell_new rfl, cell_new rfl, cell_new rfl⟩
  · exact ⟨_, _, _, _, _, _, h5.below (hb _), cell_new rfl, cell_new rfl, cell_new rfl⟩
  · exact ⟨_, _, _, _, _, _, h6.below (hb _), cell_new rfl, cell_new rfl, cell_new rfl⟩
end

set_option maxRecDepth 100000 in
set_option maxHeartbeats 6400000 in
theorem orderAnswers_walk (W : World) (aR : Option Addr) (nR cR : Nat) (zR : List Int) (pR iR : Int) (aO : Option Addr) (nO cO : Nat) (zO : List Int) (pO iO : Int) (a : Option Addr) (n cap : Nat)
    (hR : nR ≤ 800 → RowZ W aR nR cR zR) (hpR : In64 pR) (hiR : In64 iR) (hO : nO ≤ 800 → RowZ W aO nO cO zO) (hpO : In64 pO) (hiO : In64 iO) (hrow : RowAt W a n cap) :
    Calls Try.prog 3 #[curV aR nR cR pR iR, curV aO nO cO pO iO, .slice a n cap] W fun e w' => e = .returned (.bool true) ∧ Below W.heap.size W w' := by
  have hR0 : ∀ {u : World}, Below W.heap.size W u → RowAt u a n cap := fun hb => RowAt.under hrow hb
  have HIR := Lib.hid (And.intro hpR hiR)
  have HIO := Lib.hid (And.intro hpO hiO)
  clear hrow hpR hiR hpO hiO
  go_enter Try.func3, Try.ntmps3
  have hB0 : Below W.heap.size W ((W.alloc (.cells #[.slice aR nR cR, .int .i64 pR, .int .i64 iR] 24)).alloc (.cells #[.slice aO nO cO, .int .i64 pO, .int .i64 iO] 24)) :=
    ((Below.refl _ _).alloc (Nat.le_refl _) _).alloc (by simp) _
  have HB0 := Lib.hid hB0
  have HR0 := Lib.hid (hR0 hB0)
  have K4 := Lib.hid ((Cur3.new W (.slice aR nR cR) (.int .i64 pR) (.int .i64 iR) 24).alloc (.cells #[.slice aO nO cO, .int .i64 pO, .int .i64 iO] 24))
  have K5 := Lib.hid (Cur3.new2 W (.slice aO nO cO) (.int .i64 pO) (.int .i64 iO) 24 (.cells #[.slice aR nR cR, .int .i64 pR, .int .i64 iR] 24))
  have HSZ := Lib.hid (show ((W.alloc (.cells #[.slice aR nR cR, .int .i64 pR, .int .i64 iR] 24)).alloc (.cells #[.slice aO nO cO, .int .i64 pO, .int .i64 iO] 24)).heap.size = W.heap.size + 1 + 1 by simp)
  have RR0 := Lib.hid (fun hh => (hR hh).under hB0)
  have RO0 := Lib.hid (fun hh => (hO hh).under hB0)
  clear hB0 hR0 hR hO
  go_wp2_with fail
  generalize (W.alloc (.cells #[.slice aR nR cR, .int .i64 pR, .int .i64 iR] 24)).alloc (.cells #[.slice aO nO cO, .int .i64 pO, .int .i64 iO] 24) = w0 at HB0 HR0 K4 K5 HSZ RR0 RO0 ⊢
  obtain ⟨b1, hb1⟩ : ∃ b, decide (nR ≤ 800) = b := ⟨_, rfl⟩
  have HS1 := Lib.hid hb1
  refine (small_any aR nR cR pR iR b1 HS1.out _).mono ?_
  rintro e w1 ⟨rfl, hw1⟩
  have HB1 := Lib.hid (HB0.out.trans (hw1.mono HB0.out.size))
  have HW1 := Lib.hid hw1
  clear hb1 hw1
  cases b1 with
  | false =>
    go_wp2_with fail
    refine (awake4 _).mono ?_
    rintro e w2 ⟨rfl, hw2⟩
    have HB2 := Lib.hid (HB1.out.trans (hw2.mono HB1.out.size))
    go_wp2_with fail
    go_ret
    exact ⟨rfl, HB2.out⟩
  | true =>
    have K5' := K5.out.below HW1.out
    obtain ⟨c0, c1, c2, f0, f1, f2⟩ := K5'
    go_wp2_with fail
    obtain ⟨b2, hb2⟩ : ∃ b, decide (nO ≤ 800) = b := ⟨_, rfl⟩
    have HS2 := Lib.hid hb2
    refine (small_any aO nO cO pO iO b2 HS2.out _).mono ?_
    rintro e w2 ⟨rfl, hw2⟩
    have HB2 := Lib.hid (HB1.out.trans (hw2.mono HB1.out.size))
    have HW2 := Lib.hid (HW1.out.trans (hw2.mono HW1.out.size))
    clear hb2 hw2 c0 c1 c2 f0 f1 f2
    cases b2 with
    | false =>
      go_wp2_with fail
      refine (awake4 _).mono ?_
      rintro e w3 ⟨rfl, hw3⟩
      have HB3 := Lib.hid (HB2.out.trans (hw3.mono HB2.out.size))
      go_wp2_with fail
      go_ret
      exact ⟨rfl, HB3.out⟩
    | true =>
      have hnR : nR ≤ 800 := by simpa using HS1.out
      have hnO : nO ≤ 800 := by simpa using HS2.out
      have HNN := Lib.hid (And.intro hnR hnO)
      clear hnR hnO HS1 HS2
      go_wp2_with fail
      refine (new_any a n cap _ (HR0.out.under HW2.out)).mono ?_
      rintro e w3 ⟨rfl, hb3, hz3, ra, rn, rc, hs3⟩
      have HB3 := Lib.hid (HB2.out.trans (hb3.mono HB2.out.size))
      have HW3 := Lib.hid (HW2.out.trans (hb3.mono HW2.out.size))
      have HS3 := Lib.hid hs3
      have hbW : W.heap.size ≤ w2.heap.size := HB2.out.size
      have hb0 : w0.heap.size ≤ w2.heap.size := HW2.out.size
      have HZ0 := Lib.hid (And.intro hbW hb0)
      have CR := Lib.hid (show CurIn w3 w2.heap.size aR nR cR zR pR iR from (CurIn.old (RR0.out HNN.out.1) HIR.out.1 HIR.out.2 hb0).below HW3.out)
      have CO := Lib.hid (show CurIn w3 w2.heap.size aO nO cO zO pO iO from (CurIn.old (RO0.out HNN.out.2) HIO.out.1 HIO.out.2 hb0).below HW3.out)
      have K4' := Lib.hid (K4.out.below HW3.out)
      have K5' := Lib.hid (K5.out.below HW3.out)
      have h4b : ¬ W.heap.size = w2.heap.size := by have := HSZ.out; omega
      have h5b : ¬ W.heap.size + 1 = w2.heap.size := by have := HSZ.out; omega
      clear hb3 hz3 hs3 hbW hb0 RR0 RO0 K4 K5 HR0 HB2 HB1 HB0 HW1 HW2
      generalize w2.heap.size = b at *
      go_wp2_with fail
      refine (curve_any 7 (by omega) (by omega) _ ra rn rc _ HS3.out).mono ?_
      rintro e w4 ⟨a1, n1, cap1, zs, p, inc, rfl, hs4, he4, hr4, ok4, hx4⟩
      have HS4 := Lib.hid hs4
      have HB4 := Lib.hid (HB3.out.trans (he4.below HZ0.out.1 HB3.out.size))
      have C1 := Lib.hid (show CurIn w4 b a1 n1 cap1 zs p inc from ⟨hr4, by have := ok4.p8; exact ⟨by omega, by omega⟩, by have := ok4.inc; have := ok4.good.i0; exact ⟨by omega, by omega⟩, fun _ x hx => by have := hx4 x hx; have := HS3.out.lt; omega⟩)
      have OK1 := Lib.hid ok4
      have E4 := Lib.hid he4
      clear hs4 he4 hr4 ok4 hx4
      go_wp2_with fail
      refine (curve_any 7 (by omega) (by omega) _ ra rn rc _ HS4.out).mono ?_
      rintro e w5 ⟨a2, n2, cap2, ys, q, jnc, rfl, hs5, he5, hr5, ok5, hx5⟩
      have HS5 := Lib.hid hs5
      have HB5 := Lib.hid (HB4.out.trans (he5.below HZ0.out.1 HB4.out.size))
      have C2 := Lib.hid (show CurIn w5 b a2 n2 cap2 ys q jnc from ⟨hr5, by have := ok5.p8; exact ⟨by omega, by omega⟩, by have := ok5.inc; have := ok5.good.i0; exact ⟨by omega, by omega⟩, fun _ x hx => by have := hx5 x hx; have := HS4.out.lt; omega⟩)
      have OK2 := Lib.hid ok5
      have E5 := Lib.hid (E4.out.trans he5)
      have E45 := Lib.hid he5
      clear hs5 he5 hr5 ok5 hx5
      go_wp2_with fail
      have hz5 : w0.heap.size ≤ w5.heap.size := by have := HZ0.out.2; have := HS5.out.lt; omega
      have C1' := Lib.hid (((C1.out.apart E45.out).below ((Below.refl _ _).alloc (Nat.le_refl _) (.cells #[.slice a1 n1 cap1, .int .i64 p, .int .i64 inc] 24))).below ((Below.refl _ _).alloc (Nat.le_refl _) (.cells #[.slice a2 n2 cap2, .int .i64 q, .int .i64 jnc] 24)))
      have C2' := Lib.hid ((C2.out.below ((Below.refl _ _).alloc (Nat.le_refl _) (.cells #[.slice a1 n1 cap1, .int .i64 p, .int .i64 inc] 24))).below ((Below.refl _ _).alloc (Nat.le_refl _) (.cells #[.slice a2 n2 cap2, .int .i64 q, .int .i64 jnc] 24)))
      have CR' := Lib.hid (((CR.out.apart E5.out).below ((Below.refl _ _).alloc (Nat.le_refl _) (.cells #[.slice a1 n1 cap1, .int .i64 p, .int .i64 inc] 24))).below ((Below.refl _ _).alloc (Nat.le_refl _) (.cells #[.slice a2 n2 cap2, .int .i64 q, .int .i64 jnc] 24)))
      have CO' := Lib.hid (((CO.out.apart E5.out).below ((Below.refl _ _).alloc (Nat.le_refl _) (.cells #[.slice a1 n1 cap1, .int .i64 p, .int .i64 inc] 24))).below ((Below.refl _ _).alloc (Nat.le_refl _) (.cells #[.slice a2 n2 cap2, .int .i64 q, .int .i64 jnc] 24)))
      have HS6 := Lib.hid ((HS5.out.under ((Below.refl _ _).alloc (Nat.le_refl _) (.cells #[.slice a1 n1 cap1, .int .i64 p, .int .i64 inc] 24))).under ((Below.refl _ _).alloc (Nat.le_refl _) (.cells #[.slice a2 n2 cap2, .int .i64 q, .int .i64 jnc] 24)))
      have HB6 := Lib.hid ((HB5.out.alloc HB5.out.size (.cells #[.slice a1 n1 cap1, .int .i64 p, .int .i64 inc] 24)).alloc (HB5.out.alloc HB5.out.size (.cells #[.slice a1 n1 cap1, .int .i64 p, .int .i64 inc] 24)).size (.cells #[.slice a2 n2 cap2, .int .i64 q, .int .i64 jnc] 24))
      have B4 := Lib.hid (((K4'.out.apart E5.out h4b).alloc (.cells #[.slice a1 n1 cap1, .int .i64 p, .int .i64 inc] 24)).alloc (.cells #[.slice a2 n2 cap2, .int .i64 q, .int .i64 jnc] 24))
      have B5 := Lib.hid (((K5'.out.apart E5.out h5b).alloc (.cells #[.slice a1 n1 cap1, .int .i64 p, .int .i64 inc] 24)).alloc (.cells #[.slice a2 n2 cap2, .int .i64 q, .int .i64 jnc] 24))
      have B10 := Lib.hid ((Cur3.new w5 (.slice a1 n1 cap1) (.int .i64 p) (.int .i64 inc) 24).alloc (.cells #[.slice a2 n2 cap2, .int .i64 q, .int .i64 jnc] 24))
      have B11 := Lib.hid (Cur3.new2 w5 (.slice a2 n2 cap2) (.int .i64 q) (.int .i64 jnc) 24 (.cells #[.slice a1 n1 cap1, .int .i64 p, .int .i64 inc] 24))
      have h10b : ¬ w5.heap.size = b := by have := HS5.out.lt; omega
      have h11b : ¬ w5.heap.size + 1 = b := by have := HS5.out.lt; omega
      clear hz5 CR CO C1 C2 K4' K5' HS3 HS4 HW3 E5 E45 E4 HB5 HB4 HB3
      generalize (w5.alloc (.cells #[.slice a1 n1 cap1, .int .i64 p, .int .i64 inc] 24)).alloc (.cells #[.slice a2 n2 cap2, .int .i64 q, .int .i64 jnc] 24) = w6 at *
      have HK := Lib.hid (fun u (h : Held w6 b ra rn rc u) => s4_mk B4.out B5.out B10.out B11.out h4b h5b h10b h11b h)
      have HK0 := Lib.hid (HK.out _ (Held.start HS6.out).drew)
      have hn1 : 1 ≤ n1 ∧ n1 ≤ 16 := by have := ok_pos OK1.out; have := OK1.out.few; have := C1'.out.row.len; omega
      have hn2 : 1 ≤ n2 ∧ n2 ≤ 16 := by have := ok_pos OK2.out; have := OK2.out.few; have := C2'.out.row.len; omega
      have P1 := Lib.hid (show (-2000 ≤ (p : Int) ∧ (p : Int) ≤ 2000) ∧ (-4294967296 ≤ inc ∧ inc ≤ 4294967296) from by have := OK1.out.p8; have := OK1.out.inc; have := OK1.out.good.i0; omega)
      have P2 := Lib.hid (show (-2000 ≤ (q : Int) ∧ (q : Int) ≤ 2000) ∧ (-4294967296 ≤ jnc ∧ jnc ≤ 4294967296) from by have := OK2.out.p8; have := OK2.out.inc; have := OK2.out.good.i0; omega)
      have D1 := Lib.hid (ok_bd OK1.out)
      have D2 := Lib.hid (ok_bd OK2.out)
      have hbl6 := HS6.out.lt
      go_cut [10] (fun s10 wx => ∃ B, s10 = .slice (some ⟨B, 0, none⟩) 6 6 ∧ ¬ B = b ∧ Hid (Curs wx b B 6) ∧ Hid (Held w6 b ra rn rc wx))
      case first =>
        have G0 := Lib.hid (Held.start HS6.out).drew
        refine wp_region_keeps (fun u => S4 w6 b ra rn rc W.heap.size (.slice aR nR cR) (.int .i64 pR) (.int .i64 iR) (W.heap.size + 1) (.slice aO nO cO) (.int .i64 pO) (.int .i64 iO) w5.heap.size (.slice a1 n1 cap1) (.int .i64 p) (.int .i64 inc) (w5.heap.size + 1) (.slice a2 n2 cap2) (.int .i64 q) (.int .i64 jnc) u) 14 2 (by kernel_rfl) (by kernel_rfl) (HK.out _ G0.out) (fun hHeld0 => ?_)
        refine wpAnyK_take (i := 0) (v := ?_) rfl (by kernel_rfl) (fun _ _ _ h => h) (Or.inl ⟨by rfl, ?_⟩) (by assumption) ?_
        rotate_left
        · (intro w hSw; (try dsimp only at hSw); go_simp; try with_reducible rfl)
        try simp only [Act.put, List.getElem_toArray, List.getElem_cons_zero, List.getElem_cons_succ, List.setIfInBounds_toArray, List.set_cons_zero, List.set_cons_succ]
        refine wpAnyK_take (i := 1) (v := ?_) rfl (by kernel_rfl) (fun _ _ _ h => h) (Or.inl ⟨by rfl, ?_⟩) (by assumption) ?_
        rotate_left
        · (intro w hSw; (try dsimp only at hSw); go_simp; try with_reducible rfl)
        try simp only [Act.put, List.getElem_toArray, List.getElem_cons_zero, List.getElem_cons_succ, List.setIfInBounds_toArray, List.set_cons_zero, List.set_cons_succ]
        refine wpAnyK_take (i := 2) (v := ?_) rfl (by kernel_rfl) (fun _ _ _ h => h) (Or.inl ⟨by rfl, ?_⟩) (by assumption) ?_
        rotate_left
        · (intro w hSw; (try dsimp only at hSw); go_simp; try with_reducible rfl)
        try simp only [Act.put, List.getElem_toArray, List.getElem_cons_zero, List.getElem_cons_succ, List.setIfInBounds_toArray, List.set_cons_zero, List.set_cons_succ]
        refine wpAnyK_take (i := 3) (v := ?_) rfl (by kernel_rfl) (fun _ _ _ h => h) (Or.inl ⟨by rfl, ?_⟩) (by assumption) ?_
        rotate_left
        · (intro w hSw; (try dsimp only at hSw); go_simp; try with_reducible rfl)
        try simp only [Act.put, List.getElem_toArray, List.getElem_cons_zero, List.getElem_cons_succ, List.setIfInBounds_toArray, List.set_cons_zero, List.set_cons_succ]
        refine wpAnyK_take (i := 4) (v := ?_) rfl (by kernel_rfl) (fun _ _ _ h => h) (Or.inl ⟨by rfl, ?_⟩) (by assumption) ?_
        rotate_left
        · (intro w hSw; (try dsimp only at hSw); go_simp; try with_reducible rfl)
        try simp only [Act.put, List.getElem_toArray, List.getElem_cons_zero, List.getElem_cons_succ, List.setIfInBounds_toArray, List.set_cons_zero, List.set_cons_succ]
        refine wpAnyK_take (i := 5) (v := ?_) rfl (by kernel_rfl) (fun _ _ _ h => h) (Or.inl ⟨by rfl, ?_⟩) (by assumption) ?_
        rotate_left
        · (intro w hSw; (try dsimp only at hSw); go_simp; try with_reducible rfl)
        try simp only [Act.put, List.getElem_toArray, List.getElem_cons_zero, List.getElem_cons_succ, List.setIfInBounds_toArray, List.set_cons_zero, List.set_cons_succ]
        refine wpAnyK_take (i := 7) (v := ?_) rfl (by kernel_rfl) (fun _ _ _ h => h) (Or.inl ⟨by rfl, ?_⟩) (by assumption) ?_
        rotate_left
        · (intro w hSw; (try dsimp only at hSw); go_simp; try with_reducible rfl)
        try simp only [Act.put, List.getElem_toArray, List.getElem_cons_zero, List.getElem_cons_succ, List.setIfInBounds_toArray, List.set_cons_zero, List.set_cons_succ]
        refine wpAnyK_take (i := 8) (v := ?_) rfl (by kernel_rfl) (fun _ _ _ h => h) (Or.inl ⟨by rfl, ?_⟩) (by assumption) ?_
        rotate_left
        · (intro w hSw; (try dsimp only at hSw); go_simp; try with_reducible rfl)
        try simp only [Act.put, List.getElem_toArray, List.getElem_cons_zero, List.getElem_cons_succ, List.setIfInBounds_toArray, List.set_cons_zero, List.set_cons_succ]
        refine wpAnyK_take (i := 10) (v := ?_) rfl (by kernel_rfl) (fun _ _ _ h => h) (Or.inl ⟨by rfl, ?_⟩) (by assumption) ?_
        rotate_left
        · (intro w hSw; (try dsimp only at hSw); go_simp; try with_reducible rfl)
        try simp only [Act.put, List.getElem_toArray, List.getElem_cons_zero, List.getElem_cons_succ, List.setIfInBounds_toArray, List.set_cons_zero, List.set_cons_succ]
        refine wpAnyK_step (i := 6) rfl (by kernel_rfl) (fun K hK => ?_)
        go_simp
        with_reducible refine (bent_any 4611686018427387905 (by decide) (by decide) b ra rn rc a1 n1 cap1 zs p inc hn1.1 (by omega) D1.out P1.out.1 P1.out.2 _ (G0.out.at HS6.out) (C1'.out.apart G0.out.ap).row).mono ?_
        rintro e w7 ⟨a7, n7, cap7, z7, p7, i7, rfl, hs7, he7, hr7, hm7, hd7, hp7, hi7, hx7⟩
        have G1 := Lib.hid (G0.out.call hs7 he7)
        have C7 := Lib.hid (bent_in G0.out.lt hr7 hp7 hi7 hx7)
        clear hs7 he7 hr7 hm7 hd7 hp7 hi7 hx7
        refine hK.out _ _ (HK.out _ G1.out) (fun hHeld1 => ?_)
        clear hK K hHeld0
        try simp only [Act.put, List.getElem_toArray, List.getElem_cons_zero, List.getElem_cons_succ, List.setIfInBounds_toArray, List.set_cons_zero, List.set_cons_succ]
        refine wpAnyK_step (i := 9) rfl (by kernel_rfl) (fun K hK => ?_)
        go_simp
        with_reducible refine (n_any 3 (by omega) (by omega) b ra rn rc _ (G1.out.at HS6.out)).mono ?_
        rintro e w8 ⟨m1, ⟨hm0, hm1⟩, rfl, hs, he⟩
        have G2 := Lib.hid (G1.out.call hs he.apart)
        have C8 := Lib.hid (C7.out.apart he.apart)
        clear hs he
        refine hK.out _ _ (HK.out _ G2.out) (fun hHeld2 => ?_)
        clear hK K hHeld1
        try simp only [Act.put, List.getElem_toArray, List.getElem_cons_zero, List.getElem_cons_succ, List.setIfInBounds_toArray, List.set_cons_zero, List.set_cons_succ]
        refine wpAnyK_step (i := 11) rfl (by kernel_rfl) (fun K hK => ?_)
        go_simp
        with_reducible refine (n_any 3 (by omega) (by omega) b ra rn rc _ (G2.out.at HS6.out)).mono ?_
        rintro e w9 ⟨m2, ⟨hm2, hm3⟩, rfl, hs, he⟩
        have G3 := Lib.hid (G2.out.call hs he.apart)
        have C9 := Lib.hid (C8.out.apart he.apart)
        have hmw : IntKind.i64.wrap (1 + m2) = 1 + m2 := IntWalk.i64_in _ ⟨by omega, by omega⟩
        clear hs he
        refine hK.out _ _ (HK.out _ G3.out) (fun hHeld3 => ?_)
        clear hK K hHeld2
        try simp only [Act.put, List.getElem_toArray, List.getElem_cons_zero, List.getElem_cons_succ, List.setIfInBounds_toArray, List.set_cons_zero, List.set_cons_succ]
        refine wpAnyK_take (i := 12) (v := ?_) rfl (by kernel_rfl) (fun _ _ _ h => h) (Or.inl ⟨by rfl, ?_⟩) (by assumption) ?_
        rotate_left
        · (intro w hSw; (try dsimp only at hSw); go_simp; try with_reducible rfl)
        try simp only [Act.put, List.getElem_toArray, List.getElem_cons_zero, List.getElem_cons_succ, List.setIfInBounds_toArray, List.set_cons_zero, List.set_cons_succ]
        refine wpAnyK_step (i := 13) rfl (by kernel_rfl) (fun K hK => ?_)
        go_simp
        with_reducible refine (longer_same (by omega) a2 n2 cap2 ys q jnc OK2.out m1 (1 + m2) (by omega) (by omega) (by omega) (by omega) _ (C2'.out.apart G3.out.ap).row).mono ?_
        rintro e w10 ⟨a8, n8, cap8, vs, p3, inc3, rfl, hb3, hr3, hg3, hv3, hn4, hp3, hloc⟩
        have G4 := Lib.hid (G3.out.below hb3)
        have C10 := Lib.hid (C9.out.below hb3)
        have C11 := Lib.hid (show CurIn w10 b a8 n8 cap8 vs p3 inc3 from ⟨hr3, ⟨by have := hg3.p1; omega, by have := hg3.p2; omega⟩, ⟨by have := hg3.i0; omega, by have := hg3.i1; omega⟩, fun _ x hx => by
          rcases hloc with e | e
          · exact C2'.out.far hn2.1 x (by rw [← e]; exact hx)
          · have h1 := e x hx
            have h3 := G3.out.lt
            omega⟩)
        clear hb3 hr3 hg3 hv3 hn4 hp3 hloc
        refine hK.out _ _ (HK.out _ G4.out) (fun hHeld4 => ?_)
        clear hK K hHeld3
        try simp only [Act.put, List.getElem_toArray, List.getElem_cons_zero, List.getElem_cons_succ, List.setIfInBounds_toArray, List.set_cons_zero, List.set_cons_succ]
        refine wpAnyK_done (by kernel_rfl) ?_
        simp only [List.drop_succ_cons, List.drop_zero]
        clear hHeld4
        go_wp2_with fail
        go_meet
        exact ⟨w10.heap.size, rfl, by have := G4.out.lt; omega, curs6 (CR'.out.apart G4.out.ap) (CO'.out.apart G4.out.ap) (C1'.out.apart G4.out.ap) (C2'.out.apart G4.out.ap) C10.out C11.out, G4.out.alloc _⟩

      case rest =>
        obtain ⟨B, rfl, hBb, HC, HH⟩ := hcut
        obtain ⟨w9, rfl⟩ : ∃ u : World, u = wc := ⟨_, rfl⟩
        have HB9 := Lib.hid (HB6.out.trans (HH.out.ap.below HZ0.out.1 HB6.out.size))
        clear HK HK0 B4 B5 B10 B11 CR' CO' C1' C2' HH HB6 HS6 P1 P2 D1 D2 hbl6 h4b h5b h10b h11b hBb hn1 hn2 OK1 OK2
        go_wp2_with fail
        go_loopw [59] (fun s59 wx => ∃ k : Nat, s59 = .int .i64 (k : Int) ∧ k ≤ 6 ∧ Hid (Below w9.heap.size w9 wx)) (fun s59 _ => 6 - (intOf s59).toNat)
        case atStart => exact ⟨0, rfl, by omega, Below.refl _ _⟩
        case round =>
          obtain ⟨k, rfl, hk5, HL⟩ := hrel
          obtain ⟨wq, rfl⟩ : ∃ u : World, u = wr := ⟨_, rfl⟩
          by_cases hk : k < 6
          · obtain ⟨xa, xn, xc, zx, xp, xi, CX, hc0, hc1, hc2⟩ := HC.out.below HL.out k hk
            have q0 : (0 : Int) ≤ (k : Int) := by omega
            have q1 : (k : Int) < 6 := by omega
            have XI := Lib.hid (And.intro CX.ip CX.ii)
            have X1 := Lib.hid (CX.row.alloc (.cells #[.slice xa xn xc, .int .i64 xp, .int .i64 xi] 24))
            have V1 := Lib.hid (Cur3.new wq (.slice xa xn xc) (.int .i64 xp) (.int .i64 xi) 24)
            have L1 := Lib.hid (HL.out.alloc HL.out.size (.cells #[.slice xa xn xc, .int .i64 xp, .int .i64 xi] 24))
            clear CX
            go_wp2_with fail
            clear hc0 hc1 hc2
            generalize wq.alloc (.cells #[.slice xa xn xc, .int .i64 xp, .int .i64 xi] 24) = wA at X1 V1 L1 ⊢
            go_loopw [65] (fun s65 wx => ∃ j : Nat, s65 = .int .i64 (j : Int) ∧ j ≤ 6 ∧ Hid (Below wA.heap.size wA wx)) (fun s65 _ => 6 - (intOf s65).toNat)
            case atStart => exact ⟨0, rfl, by omega, Below.refl _ _⟩
            case round =>
              obtain ⟨j, rfl, hj5, HM⟩ := hrel
              obtain ⟨wB, rfl⟩ : ∃ u : World, u = wr := ⟨_, rfl⟩
              by_cases hj : j < 6
              · obtain ⟨ya, yn, yc, zy, yp, yi, CY, hc0, hc1, hc2⟩ := HC.out.below (L1.out.trans (HM.out.mono L1.out.size)) j hj
                have r0 : (0 : Int) ≤ (j : Int) := by omega
                have r1 : (j : Int) < 6 := by omega
                have YI := Lib.hid (And.intro CY.ip CY.ii)
                have Y1 := Lib.hid (CY.row.alloc (.cells #[.slice ya yn yc, .int .i64 yp, .int .i64 yi] 24))
                have U1 := Lib.hid (Cur3.new wB (.slice ya yn yc) (.int .i64 yp) (.int .i64 yi) 24)
                have X2 := Lib.hid ((X1.out.under HM.out).alloc (.cells #[.slice ya yn yc, .int .i64 yp, .int .i64 yi] 24))
                have V2 := Lib.hid ((V1.out.below HM.out).alloc (.cells #[.slice ya yn yc, .int .i64 yp, .int .i64 yi] 24))
                have M1 := Lib.hid (HM.out.alloc HM.out.size (.cells #[.slice ya yn yc, .int .i64 yp, .int .i64 yi] 24))
                obtain ⟨e0, e1, e2, k0, k1, k2⟩ := V1.out.below HM.out
                obtain ⟨l1, l2, l3, l4⟩ := lt5' (V1.out.below HM.out).lt
                clear CY
                go_wp2_with fail
                clear hc0 hc1 hc2 e0 e1 e2 k0 k1 k2 l1 l2 l3 l4
                generalize wB.alloc (.cells #[.slice ya yn yc, .int .i64 yp, .int .i64 yi] 24) = wC at Y1 U1 X2 V2 M1 ⊢
                obtain ⟨t1, o1, c1, h1⟩ := cmpU_ex excP_ex zx xp xi zy yp yi
                obtain ⟨t2, o2, c2, h2⟩ := cmpU_ex setP_ex zx xp xi zy yp yi
                obtain ⟨t3, o3, c3, h3⟩ := cmpU_ex meetP_ex zx xp xi zy yp yi
                have E1 := Lib.hid h1
                have E2 := Lib.hid h2
                have E3 := Lib.hid h3
                clear h1 h2 h3
                have N0 := Lib.hid (Below.refl wC.heap.size wC)
                refine (exceeds_u xa xn xc zx xp xi XI.out.1 XI.out.2 ya yn yc zy yp yi YI.out.1 YI.out.2 t1 o1 c1 _ (X2.out.under N0.out) (Y1.out.under N0.out) E1.out).mono ?_
                rintro e wd1 ⟨rfl, hb⟩
                have N1 := Lib.hid (N0.out.trans (hb.mono N0.out.size))
                clear hb N0
                obtain ⟨c0, c1', c2', f0, f1, f2⟩ := V2.out.below N1.out
                obtain ⟨d0, d1, d2, g0, g1, g2⟩ := U1.out.below N1.out
                go_wp2_with fail
                clear c0 c1' c2' f0 f1 f2 d0 d1 d2 g0 g1 g2
                refine (rexceeds_u xa xn xc zx xp xi XI.out.1 XI.out.2 ya yn yc zy yp yi YI.out.1 YI.out.2 t1 o1 c1 _ (X2.out.under N1.out) (Y1.out.under N1.out) E1.out).mono ?_
                rintro e wd2 ⟨rfl, hb⟩
                have N2 := Lib.hid (N1.out.trans (hb.mono N1.out.size))
                clear hb N1
                obtain ⟨c0, c1', c2', f0, f1, f2⟩ := V2.out.below N2.out
                obtain ⟨d0, d1, d2, g0, g1, g2⟩ := U1.out.below N2.out
                go_wp2_with fail
                clear c0 c1' c2' f0 f1 f2 d0 d1 d2 g0 g1 g2
                have V3 := Lib.hid (V2.out.below N2.out)
                have U3 := Lib.hid (U1.out.below N2.out)
                have X3 := Lib.hid (X2.out.under N2.out)
                have Y3 := Lib.hid (Y1.out.under N2.out)
                obtain ⟨bm, hbm⟩ : ∃ b, (decide (c1 = 0) && !o1) = b := ⟨_, rfl⟩
                have BM := Lib.hid hbm
                clear hbm
                have G0 := Lib.hid ((Below.refl wd2.heap.size wd2).drew)
                have HQ := Lib.hid (fun u (h : Below wd2.heap.size wd2 u) => s6_mk V3.out U3.out h)
                go_cut [104] (fun s104 wx => s104 = .bool false ∧ Hid (Below wd2.heap.size wd2 wx))
                case first =>
                  refine wp_region_keeps (fun u => S6 wd2 wq.heap.size (.slice xa xn xc) (.int .i64 xp) (.int .i64 xi) wB.heap.size (.slice ya yn yc) (.int .i64 yp) (.int .i64 yi) u) 21 1 (by kernel_rfl) (by kernel_rfl) (HQ.out _ G0.out) (fun hHeld0 => ?_)
                  refine wpAnyK_take (i := 0) (v := ?_) rfl (by kernel_rfl) (fun _ _ _ h => h) (Or.inl ⟨by rfl, ?_⟩) (by assumption) ?_
                  rotate_left
                  · (intro w hSw; (try dsimp only at hSw); go_simp; try with_reducible rfl)
                  try simp only [Act.put, List.getElem_toArray, List.getElem_cons_zero, List.getElem_cons_succ, List.setIfInBounds_toArray, List.set_cons_zero, List.set_cons_succ]
                  refine wpAnyK_take (i := 1) (v := ?_) rfl (by kernel_rfl) (fun _ _ _ h => h) (Or.inl ⟨by rfl, ?_⟩) (by assumption) ?_
                  rotate_left
                  · (intro w hSw; (try dsimp only at hSw); go_simp; try with_reducible rfl)
                  try simp only [Act.put, List.getElem_toArray, List.getElem_cons_zero, List.getElem_cons_succ, List.setIfInBounds_toArray, List.set_cons_zero, List.set_cons_succ]
                  refine wpAnyK_take (i := 2) (v := ?_) rfl (by kernel_rfl) (fun _ _ _ h => h) (Or.inl ⟨by rfl, ?_⟩) (by assumption) ?_
                  rotate_left
                  · (intro w hSw; (try dsimp only at hSw); go_simp; try with_reducible rfl)
                  try simp only [Act.put, List.getElem_toArray, List.getElem_cons_zero, List.getElem_cons_succ, List.setIfInBounds_toArray, List.set_cons_zero, List.set_cons_succ]
                  refine wpAnyK_take (i := 3) (v := ?_) rfl (by kernel_rfl) (fun _ _ _ h => h) (Or.inl ⟨by rfl, ?_⟩) (by assumption) ?_
                  rotate_left
                  · (intro w hSw; (try dsimp only at hSw); go_simp; try with_reducible rfl)
                  try simp only [Act.put, List.getElem_toArray, List.getElem_cons_zero, List.getElem_cons_succ, List.setIfInBounds_toArray, List.set_cons_zero, List.set_cons_succ]
                  refine wpAnyK_take (i := 4) (v := ?_) rfl (by kernel_rfl) (fun _ _ _ h => h) (Or.inl ⟨by rfl, ?_⟩) (by assumption) ?_
                  rotate_left
                  · (intro w hSw; (try dsimp only at hSw); go_simp; try with_reducible rfl)
                  try simp only [Act.put, List.getElem_toArray, List.getElem_cons_zero, List.getElem_cons_succ, List.setIfInBounds_toArray, List.set_cons_zero, List.set_cons_succ]
                  refine wpAnyK_take (i := 5) (v := ?_) rfl (by kernel_rfl) (fun _ _ _ h => h) (Or.inl ⟨by rfl, ?_⟩) (by assumption) ?_
                  rotate_left
                  · (intro w hSw; (try dsimp only at hSw); go_simp; try with_reducible rfl)
                  try simp only [Act.put, List.getElem_toArray, List.getElem_cons_zero, List.getElem_cons_succ, List.setIfInBounds_toArray, List.set_cons_zero, List.set_cons_succ]
                  refine wpAnyK_take (i := 6) (v := ?_) rfl (by kernel_rfl) (fun _ _ _ h => h) (Or.inl ⟨by rfl, ?_⟩) (by assumption) ?_
                  rotate_left
                  · (intro w hSw; (try dsimp only at hSw); go_simp; try with_reducible rfl)
                  try simp only [Act.put, List.getElem_toArray, List.getElem_cons_zero, List.getElem_cons_succ, List.setIfInBounds_toArray, List.set_cons_zero, List.set_cons_succ]
                  refine wpAnyK_take (i := 7) (v := ?_) rfl (by kernel_rfl) (fun _ _ _ h => h) (Or.inl ⟨by rfl, ?_⟩) (by assumption) ?_
                  rotate_left
                  · (intro w hSw; (try dsimp only at hSw); go_simp; try with_reducible rfl)
                  try simp only [Act.put, List.getElem_toArray, List.getElem_cons_zero, List.getElem_cons_succ, List.setIfInBounds_toArray, List.set_cons_zero, List.set_cons_succ]
                  refine wpAnyK_take (i := 8) (v := ?_) rfl (by kernel_rfl) (fun _ _ _ h => h) (Or.inl ⟨by rfl, ?_⟩) (by assumption) ?_
                  rotate_left
                  · (intro w hSw; (try dsimp only at hSw); go_simp; try with_reducible rfl)
                  try simp only [Act.put, List.getElem_toArray, List.getElem_cons_zero, List.getElem_cons_succ, List.setIfInBounds_toArray, List.set_cons_zero, List.set_cons_succ]
                  refine wpAnyK_take (i := 9) (v := ?_) rfl (by kernel_rfl) (fun _ _ _ h => h) (Or.inl ⟨by rfl, ?_⟩) (by assumption) ?_
                  rotate_left
                  · (intro w hSw; (try dsimp only at hSw); go_simp; try with_reducible rfl)
                  try simp only [Act.put, List.getElem_toArray, List.getElem_cons_zero, List.getElem_cons_succ, List.setIfInBounds_toArray, List.set_cons_zero, List.set_cons_succ]
                  refine wpAnyK_take (i := 10) (v := ?_) rfl (by kernel_rfl) (fun _ _ _ h => h) (Or.inl ⟨by rfl, ?_⟩) (by assumption) ?_
                  rotate_left
                  · (intro w hSw; (try dsimp only at hSw); go_simp; try with_reducible rfl)
                  try simp only [Act.put, List.getElem_toArray, List.getElem_cons_zero, List.getElem_cons_succ, List.setIfInBounds_toArray, List.set_cons_zero, List.set_cons_succ]
                  refine wpAnyK_take (i := 11) (v := ?_) rfl (by kernel_rfl) (fun _ _ _ h => h) (Or.inl ⟨by rfl, ?_⟩) (by assumption) ?_
                  rotate_left
                  · (intro w hSw; (try dsimp only at hSw); go_simp; try with_reducible rfl)
                  try simp only [Act.put, List.getElem_toArray, List.getElem_cons_zero, List.getElem_cons_succ, List.setIfInBounds_toArray, List.set_cons_zero, List.set_cons_succ]
                  refine wpAnyK_take (i := 12) (v := ?_) rfl (by kernel_rfl) (fun _ _ _ h => h) (Or.inl ⟨by rfl, ?_⟩) (by assumption) ?_
                  rotate_left
                  · (intro w hSw; (try dsimp only at hSw); go_simp; try with_reducible rfl)
                  try simp only [Act.put, List.getElem_toArray, List.getElem_cons_zero, List.getElem_cons_succ, List.setIfInBounds_toArray, List.set_cons_zero, List.set_cons_succ]
                  refine wpAnyK_take (i := 13) (v := ?_) rfl (by kernel_rfl) (fun _ _ _ h => h) (Or.inl ⟨by rfl, ?_⟩) (by assumption) ?_
                  rotate_left
                  · (intro w hSw; (try dsimp only at hSw); go_simp; try with_reducible rfl)
                  try simp only [Act.put, List.getElem_toArray, List.getElem_cons_zero, List.getElem_cons_succ, List.setIfInBounds_toArray, List.set_cons_zero, List.set_cons_succ]
                  refine wpAnyK_take (i := 14) (v := ?_) rfl (by kernel_rfl) (fun _ _ _ h => h) (Or.inl ⟨by rfl, ?_⟩) (by assumption) ?_
                  rotate_left
                  · (intro w hSw; (try dsimp only at hSw); go_simp; try with_reducible rfl)
                  try simp only [Act.put, List.getElem_toArray, List.getElem_cons_zero, List.getElem_cons_succ, List.setIfInBounds_toArray, List.set_cons_zero, List.set_cons_succ]
                  refine wpAnyK_take (i := 15) (v := ?_) rfl (by kernel_rfl) (fun _ _ _ h => h) (Or.inl ⟨by rfl, ?_⟩) (by assumption) ?_
                  rotate_left
                  · (intro w hSw; (try dsimp only at hSw); go_simp; try with_reducible rfl)
                  try simp only [Act.put, List.getElem_toArray, List.getElem_cons_zero, List.getElem_cons_succ, List.setIfInBounds_toArray, List.set_cons_zero, List.set_cons_succ]
                  refine wpAnyK_take (i := 17) (v := ?_) rfl (by kernel_rfl) (fun _ _ _ h => h) (Or.inl ⟨by rfl, ?_⟩) (by assumption) ?_
                  rotate_left
                  · (intro w hSw; (try dsimp only at hSw); go_simp; try with_reducible rfl)
                  try simp only [Act.put, List.getElem_toArray, List.getElem_cons_zero, List.getElem_cons_succ, List.setIfInBounds_toArray, List.set_cons_zero, List.set_cons_succ]
                  refine wpAnyK_take (i := 18) (v := ?_) rfl (by kernel_rfl) (fun _ _ _ h => h) (Or.inl ⟨by rfl, ?_⟩) (by assumption) ?_
                  rotate_left
                  · (intro w hSw; (try dsimp only at hSw); go_simp; try with_reducible rfl)
                  try simp only [Act.put, List.getElem_toArray, List.getElem_cons_zero, List.getElem_cons_succ, List.setIfInBounds_toArray, List.set_cons_zero, List.set_cons_succ]
                  refine wpAnyK_step (i := 16) rfl (by kernel_rfl) (fun K hK => ?_)
                  go_simp
                  with_reducible refine (atMost_u xa xn xc zx xp xi XI.out.1 XI.out.2 ya yn yc zy yp yi YI.out.1 YI.out.2 t1 o1 c1 _ (X3.out.under G0.out) (Y3.out.under G0.out) E1.out bm BM.out).mono ?_
                  rintro e wz1 ⟨rfl, hb⟩
                  have G1 := Lib.hid (G0.out.trans (hb.mono G0.out.size))
                  clear hb
                  refine hK.out _ _ (HQ.out _ G1.out) (fun hHeld1 => ?_)
                  clear hK K hHeld0
                  try simp only [Act.put, List.getElem_toArray, List.getElem_cons_zero, List.getElem_cons_succ, List.setIfInBounds_toArray, List.set_cons_zero, List.set_cons_succ]
                  refine wpAnyK_step (i := 19) rfl (by kernel_rfl) (fun K hK => ?_)
                  go_simp
                  with_reducible refine (ratMost_u xa xn xc zx xp xi XI.out.1 XI.out.2 ya yn yc zy yp yi YI.out.1 YI.out.2 t1 o1 c1 _ (X3.out.under G1.out) (Y3.out.under G1.out) E1.out bm BM.out).mono ?_
                  rintro e wz2 ⟨rfl, hb⟩
                  have G2 := Lib.hid (G1.out.trans (hb.mono G1.out.size))
                  clear hb
                  refine hK.out _ _ (HQ.out _ G2.out) (fun hHeld2 => ?_)
                  clear hK K hHeld1
                  try simp only [Act.put, List.getElem_toArray, List.getElem_cons_zero, List.getElem_cons_succ, List.setIfInBounds_toArray, List.set_cons_zero, List.set_cons_succ]
                  refine wpAnyK_take (i := 20) (v := ?_) rfl (by kernel_rfl) (fun _ _ _ h => h) (Or.inl ⟨by rfl, ?_⟩) (by assumption) ?_
                  rotate_left
                  · (intro w hSw; (try dsimp only at hSw); go_simp; try with_reducible rfl)
                  try simp only [Act.put, List.getElem_toArray, List.getElem_cons_zero, List.getElem_cons_succ, List.setIfInBounds_toArray, List.set_cons_zero, List.set_cons_succ]
                  refine wpAnyK_done (by kernel_rfl) ?_
                  simp only [List.drop_succ_cons, List.drop_zero]
                  clear hHeld2
                  go_wp2_with fail
                  go_meet
                  exact ⟨rfl, G2⟩

                case rest =>
                  obtain ⟨rfl, HG2⟩ := hcut
                  obtain ⟨wE, rfl⟩ : ∃ u : World, u = wc := ⟨_, rfl⟩
                  have N3 := Lib.hid (N2.out.trans (HG2.out.mono N2.out.size))
                  clear HG2 N2 V3 U3 X3 Y3 G0 HQ BM
                  obtain ⟨c0, c1', c2', f0, f1, f2⟩ := V2.out.below N3.out
                  obtain ⟨d0, d1, d2, g0, g1, g2⟩ := U1.out.below N3.out
                  go_wp2_with fail
                  clear c0 c1' c2' f0 f1 f2 d0 d1 d2 g0 g1 g2
                  refine (settles_u xa xn xc zx xp xi XI.out.1 XI.out.2 ya yn yc zy yp yi YI.out.1 YI.out.2 t2 o2 c2 _ (X2.out.under N3.out) (Y1.out.under N3.out) E2.out).mono ?_
                  rintro e wd4 ⟨rfl, hb⟩
                  have N4 := Lib.hid (N3.out.trans (hb.mono N3.out.size))
                  clear hb N3
                  obtain ⟨c0, c1', c2', f0, f1, f2⟩ := V2.out.below N4.out
                  obtain ⟨d0, d1, d2, g0, g1, g2⟩ := U1.out.below N4.out
                  go_wp2_with fail
                  clear c0 c1' c2' f0 f1 f2 d0 d1 d2 g0 g1 g2
                  refine (rsettles_u xa xn xc zx xp xi XI.out.1 XI.out.2 ya yn yc zy yp yi YI.out.1 YI.out.2 t2 o2 c2 _ (X2.out.under N4.out) (Y1.out.under N4.out) E2.out).mono ?_
                  rintro e wd5 ⟨rfl, hb⟩
                  have N5 := Lib.hid (N4.out.trans (hb.mono N4.out.size))
                  clear hb N4
                  obtain ⟨c0, c1', c2', f0, f1, f2⟩ := V2.out.below N5.out
                  obtain ⟨d0, d1, d2, g0, g1, g2⟩ := U1.out.below N5.out
                  go_wp2_with fail
                  clear c0 c1' c2' f0 f1 f2 d0 d1 d2 g0 g1 g2
                  refine (meets_u xa xn xc zx xp xi XI.out.1 XI.out.2 ya yn yc zy yp yi YI.out.1 YI.out.2 t3 o3 c3 _ (X2.out.under N5.out) (Y1.out.under N5.out) E3.out).mono ?_
                  rintro e wd6 ⟨rfl, hb⟩
                  have N6 := Lib.hid (N5.out.trans (hb.mono N5.out.size))
                  clear hb N5
                  obtain ⟨c0, c1', c2', f0, f1, f2⟩ := V2.out.below N6.out
                  obtain ⟨d0, d1, d2, g0, g1, g2⟩ := U1.out.below N6.out
                  go_wp2_with fail
                  clear c0 c1' c2' f0 f1 f2 d0 d1 d2 g0 g1 g2
                  refine (rmeets_u xa xn xc zx xp xi XI.out.1 XI.out.2 ya yn yc zy yp yi YI.out.1 YI.out.2 t3 o3 c3 _ (X2.out.under N6.out) (Y1.out.under N6.out) E3.out).mono ?_
                  rintro e wd7 ⟨rfl, hb⟩
                  have N7 := Lib.hid (N6.out.trans (hb.mono N6.out.size))
                  clear hb N6
                  obtain ⟨c0, c1', c2', f0, f1, f2⟩ := V2.out.below N7.out
                  obtain ⟨d0, d1, d2, g0, g1, g2⟩ := U1.out.below N7.out
                  clear c0 c1' c2' f0 f1 f2 d0 d1 d2 g0 g1 g2
                  go_wp2_with fail
                  exact ⟨⟨j + 1, by go_num, by omega, M1.out.trans (N7.out.mono M1.out.size)⟩, by simp [intOf]; omega⟩
              · obtain rfl : j = 6 := by omega
                go_wp2_with fail
                exact ⟨⟨k + 1, by go_num, by omega, L1.out.trans (HM.out.mono L1.out.size)⟩, by simp [intOf]; omega⟩
          · obtain rfl : k = 6 := by omega
            go_wp2_with fail
            refine (awake4 _).mono ?_
            rintro e w10 ⟨rfl, hb⟩
            have HB10 := Lib.hid ((HB9.out.trans (HL.out.mono HB9.out.size)).trans (hb.mono (HB9.out.trans (HL.out.mono HB9.out.size)).size))
            clear hb
            go_wp2_with fail
            go_ret
            exact ⟨rfl, HB10.out⟩

end Go.Proofs.Ytgdkjmmlgnmidaa
