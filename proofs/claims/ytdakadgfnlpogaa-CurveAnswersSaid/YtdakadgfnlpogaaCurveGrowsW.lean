/- The walk of CurveGrows. By the verifier's side. -/
import Derived.Test.YtdakadgfnlpogaaCurW
import Derived.Test.YtdakadgfnlpogaaCurT
import Derived.Test.YtdakadgfnlpogaaKeepC
namespace Go.Proofs.Ytdakadgfnlpogaa
open Go.RowKit
set_option linter.unusedSimpArgs false

theorem NormC.canon' {zs zs' ys ys' : List Int} {p p' q q' : Nat} {inc inc' jnc jnc' : Int} (h : NormC zs p inc zs' p' inc') (g : Good zs p inc) (k : Good ys q jnc) (l : NormC ys q jnc ys' q' jnc') (he : ∀ t, atC zs p inc t = atC ys q jnc t) : zs' = ys' ∧ p' = q' ∧ inc' = jnc' := h.canon g k l he

/-- Two curves in boxes F and G, and their rows. -/
structure Two (w : World) (F : Nat) (a : Option Addr) (n cap p : Nat) (inc : Int) (zs : List Int) (G : Nat) (b : Option Addr) (m cup q : Nat) (jnc : Int) (ys : List Int) : Prop where
  bx : Cur3 w F (.slice a n cap) (.int .i64 p) (.int .i64 inc)
  rx : RowZ w a n cap zs
  by' : Cur3 w G (.slice b m cup) (.int .i64 q) (.int .i64 jnc)
  ry : RowZ w b m cup ys
section
variable {w w' : World} {F : Nat} {a : Option Addr} {n cap p : Nat} {inc : Int} {zs : List Int} {G : Nat} {b : Option Addr} {m cup q : Nat} {jnc : Int} {ys : List Int}
theorem Two.under (h : Two w F a n cap p inc zs G b m cup q jnc ys) (hb : Below w.heap.size w w') : Two w' F a n cap p inc zs G b m cup q jnc ys :=
  ⟨h.bx.below hb, h.rx.under hb, h.by'.below hb, h.ry.under hb⟩

/-- The cells of both boxes behind something that leaves them alone. -/
abbrev TwoS (W : World) (F : Nat) (a : Option Addr) (n cap p : Nat) (inc : Int) (zs : List Int) (G : Nat) (b : Option Addr) (m cup q : Nat) (jnc : Int) (ys : List Int) (w' : World) : Prop :=
  w'.cell? ⟨F, 0, none⟩ = some (.slice a n cap) ∧ w'.cell? ⟨F, 1, none⟩ = some (.int .i64 p) ∧ w'.cell? ⟨F, 2, none⟩ = some (.int .i64 inc) ∧
  w'.cell? ⟨G, 0, none⟩ = some (.slice b m cup) ∧ w'.cell? ⟨G, 1, none⟩ = some (.int .i64 q) ∧ Hid (Below W.heap.size W w' ∧ Two w' F a n cap p inc zs G b m cup q jnc ys)
theorem two_s {W : World} (h : Two w' F a n cap p inc zs G b m cup q jnc ys) (hb : Below W.heap.size W w') : TwoS W F a n cap p inc zs G b m cup q jnc ys w' :=
  ⟨h.bx.c0, h.bx.c1, h.bx.c2, h.by'.c0, h.by'.c1, hb, h⟩
theorem two_of {W : World} (h : TwoS W F a n cap p inc zs G b m cup q jnc ys w') : Two w' F a n cap p inc zs G b m cup q jnc ys := h.2.2.2.2.2.out.2
theorem two_below {W : World} (h : TwoS W F a n cap p inc zs G b m cup q jnc ys w') : Below W.heap.size W w' := h.2.2.2.2.2.out.1
theorem two_drew {W : World} (h : Two W F a n cap p inc zs G b m cup q jnc ys) : TwoS W F a n cap p inc zs G b m cup q jnc ys W.drew :=
  two_s (h.under (Below.refl _ _).drew) (Below.refl _ _).drew
theorem two_call {W u v : World} (h : TwoS W F a n cap p inc zs G b m cup q jnc ys u) (hb : Below u.heap.size u v) : TwoS W F a n cap p inc zs G b m cup q jnc ys v :=
  two_s ((two_of h).under hb) ((two_below h).trans (hb.mono (two_below h).size))
end

/-- What a finite curve and its normal form have to do with each other. -/
theorem norm_fin {zs zs' : List Int} {p p' : Nat} {inc inc' : Int} (g : Good zs p inc) (hf : ¬ zs.getD (zs.length - 1) 0 = infV) (h : NormC zs p inc zs' p' inc') {s : Nat} (hs : zs'.length = s + p') :
    (∀ t, s ≤ t → atC zs p inc (t + p') = atC zs p inc t + inc') ∧ ∃ k : Nat, 1 ≤ k ∧ p = k * p' ∧ inc = (k : Int) * inc' := by
  rcases h with ⟨_, s0, hn, rfl, hle, hpp⟩ | ⟨i, hi, he, _⟩
  · have hl : (zs.take (s0 + p')).length = s0 + p' := by rw [List.length_take]; omega
    obtain rfl : s0 = s := by omega
    obtain ⟨h0, h1⟩ := hn.divides (g.per hf)
    refine ⟨hn.per, p / p', ?_, ?_, h1⟩
    · exact Nat.div_pos hpp hn.pos
    · have := Nat.mod_add_div p p'
      rw [h0, Nat.zero_add, Nat.mul_comm] at this
      exact this.symm
  · exact absurd (g.inf_iff.1 ⟨i, hi, he⟩) hf

theorem slope_eq {x y inc inc' : Int} {p p' k : Nat} (hk : 1 ≤ k) (hp : p = k * p') (hi : inc = (k : Int) * inc') (h : x * (p : Int) = y * inc) : x * (p' : Int) = y * inc' := by
  subst hp hi
  have hk0 : (k : Int) ≠ 0 := by omega
  refine Int.eq_of_mul_eq_mul_left hk0 ?_
  rw [Int.natCast_mul] at h
  grind

set_option maxRecDepth 100000 in
set_option maxHeartbeats 6400000 in
theorem curveGrows_walk (W : World) (a : Option Addr) (n cap : Nat) (hrow : RowAt W a n cap) (t : Int) (ht : In64 t) :
    Calls Try.prog 6 #[.slice a n cap, .int .i64 t] W fun e w' => e = .returned (.bool true) ∧ Below W.heap.size W w' := by
  have HR := Lib.hid hrow
  clear hrow
  go_enter Try.func6, Try.ntmps6
  go_wp2_with fail
  refine (new_any a n cap _ HR.out).mono ?_
  rintro e w1 ⟨rfl, hb1, hz1, a1, n1, cap1, hs1⟩
  have HB1 := Lib.hid hb1
  have HS1 := Lib.hid hs1
  have Z1 := Lib.hid hz1
  clear hb1 hz1 hs1
  go_wp2_with fail
  refine (curve_any 9 (by omega) (by omega) _ a1 n1 cap1 _ HS1.out).mono ?_
  rintro e w2 ⟨a', n', cap', zs, p, inc, rfl, hs2, he2, hr2, ok, hx2⟩
  have OK := Lib.hid ok
  have HB2 := Lib.hid (HB1.out.trans (he2.below (Nat.le_refl _) HB1.out.size))
  have BX := Lib.hid (Cur3.new w2 (.slice a' n' cap') (.int .i64 p) (.int .i64 inc) 24)
  have RX := Lib.hid (hr2.alloc (.cells #[.slice a' n' cap', .int .i64 p, .int .i64 inc] 24))
  have HB3 := Lib.hid (HB2.out.alloc HB2.out.size (.cells #[.slice a' n' cap', .int .i64 p, .int .i64 inc] 24))
  have hlen := hr2.len
  have hp1 := ok.good.p1
  have hp8 := ok.p8
  have hf := ok.few
  have hi0 := ok.good.i0
  have hi1 := ok.inc
  have hn16 : n' ≤ 16 := by omega
  have HL := Lib.hid hlen
  clear hs2 he2 hr2 ok hx2 hlen hf
  go_wp2_with fail
  refine (normal_ok a' n' cap' zs p inc OK.out.good _ RX.out).mono ?_
  rintro e w3 ⟨a2, n2, cap2, zs2, p2, inc2, rfl, hb3, hr3, hn3, hx3⟩
  have HB4 := Lib.hid (HB3.out.trans (hb3.mono HB3.out.size))
  have HN := Lib.hid hn3
  obtain ⟨b1, b2, b3, b4, b5, b6⟩ := norm_p3 OK.out.good hn3
  rw [hr3.len] at b3 b4
  have HL2 := Lib.hid hr3.len
  have T0 := Lib.hid (show Two (w3.alloc (.cells #[.slice a2 n2 cap2, .int .i64 p2, .int .i64 inc2] 24)) w2.heap.size a' n' cap' p inc zs w3.heap.size a2 n2 cap2 p2 inc2 zs2 from
    ⟨(BX.out.below hb3).alloc _, (RX.out.under hb3).alloc _, Cur3.new _ _ _ _ _, hr3.alloc _⟩)
  have HB5 := Lib.hid (HB4.out.alloc HB4.out.size (.cells #[.slice a2 n2 cap2, .int .i64 p2, .int .i64 inc2] 24))
  obtain ⟨s, hs⟩ : ∃ s, n2 = s + p2 := ⟨n2 - p2, by omega⟩
  have HS := Lib.hid hs
  have hs400 : s + p2 ≤ 400 := by omega
  have q1 : IntKind.i64.wrap ((n2 : Int) - (p2 : Int)) = (s : Int) := by rw [show (n2 : Int) - (p2 : Int) = (s : Int) by omega]; exact IntWalk.i64_in _ ⟨by omega, by omega⟩
  clear hb3 hr3 hn3 hx3 hs BX RX
  go_wp2_with fail
  generalize w3.alloc (.cells #[.slice a2 n2 cap2, .int .i64 p2, .int .i64 inc2] 24) = w4 at T0 HB5 ⊢
  refine (mod_any t 1000 ht (by omega) (by omega) _).mono ?_
  rintro e w5 ⟨rfl, rfl⟩
  obtain ⟨k, hk⟩ : ∃ k : Nat, t % 1000 = (k : Int) := ⟨(t % 1000).toNat, by omega⟩
  have hk5 : k < 1000 := by omega
  rw [hk]
  clear hk
  obtain ⟨c0, c1, c2, f0, f1, f2⟩ := T0.out.bx
  go_wp2_with fail
  obtain ⟨v1, hv1⟩ : ∃ v, atC zs p inc k = v := ⟨_, rfl⟩
  obtain ⟨v2, hv2⟩ : ∃ v, atC zs p inc (k + 1) = v := ⟨_, rfl⟩
  have hle : v1 ≤ v2 := by rw [← hv1, ← hv2]; exact OK.out.good.step k
  have hgt : decide (v2 < v1) = false := by simpa using hle
  have HV := Lib.hid (And.intro hv1 hv2)
  clear hv1 hv2 hle
  refine (value_at a' n' cap' zs p inc OK.out.good _ k rfl (by omega) v1 HV.out.1 _ T0.out.rx).mono ?_
  rintro e w6 ⟨rfl, hb6⟩
  have T1 := Lib.hid (T0.out.under hb6)
  have HB6 := Lib.hid (HB5.out.trans (hb6.mono HB5.out.size))
  clear hb6 c0 c1 c2 f0 f1 f2
  obtain ⟨c0, c1, c2, f0, f1, f2⟩ := T1.out.bx
  go_wp2_with fail
  refine (value_at a' n' cap' zs p inc OK.out.good _ (k + 1) (by omega) (by omega) v2 HV.out.2 _ T1.out.rx).mono ?_
  rintro e w7 ⟨rfl, hb7⟩
  have T2 := Lib.hid (T1.out.under hb7)
  have HB7 := Lib.hid (HB6.out.trans (hb7.mono HB6.out.size))
  clear hb7 c0 c1 c2 f0 f1 f2
  go_wp2_with fail
  go_region_held3 (fun w' => w'.cell? ⟨w2.heap.size, 0, none⟩ = some (.slice a' n' cap') ∧ w'.cell? ⟨w2.heap.size, 1, none⟩ = some (.int .i64 p) ∧ w'.cell? ⟨w2.heap.size, 2, none⟩ = some (.int .i64 inc) ∧
      w'.cell? ⟨w3.heap.size, 0, none⟩ = some (.slice a2 n2 cap2) ∧ w'.cell? ⟨w3.heap.size, 1, none⟩ = some (.int .i64 p2) ∧ Hid (Below w7.heap.size w7 w' ∧ Two w' w2.heap.size a' n' cap' p inc zs w3.heap.size a2 n2 cap2 p2 inc2 zs2))
    (first | with_reducible exact two_drew T2.out | with_reducible exact two_call (by assumption) hbx)
    (first | (go_at_call 22; refine (start_at a' n' cap' zs p inc OK.out.good HN.out s (HL2.out.trans HS.out) _ (two_of (by assumption)).rx).mono ?_; rintro e w8 ⟨rfl, hbx⟩))
  all_goals go_wp2_with fail
  have hT3 : TwoS w7 w2.heap.size a' n' cap' p inc zs w3.heap.size a2 n2 cap2 p2 inc2 zs2 w8 := by assumption
  have T3 := Lib.hid (two_of hT3)
  have HB8 := Lib.hid (HB7.out.trans ((two_below hT3).mono HB7.out.size))
  clear hT3
  by_cases hf : zs.getD (zs.length - 1) 0 = infV
  · have HF := Lib.hid (finB_inf (p := p) (inc := inc) hf)
    obtain ⟨j, hj⟩ : ∃ j, n2 = j + 1 := ⟨n2 - 1, by omega⟩
    have hjv : zs2.getD j 0 = infV := by
      have := (HN.out.fin_iff OK.out.good).2 hf
      rwa [HL2.out, show n2 - 1 = j by omega] at this
    have HJ := Lib.hid (And.intro hj hjv)
    have q2 : (n2 : Int) - 1 = (j : Int) := by omega
    have q3 : (j : Int) < (n2 : Int) := by omega
    have q4 : (0 : Int) < (n2 : Int) := by omega
    clear hf hj hjv
    refine (slope_no a' n' cap' zs p inc ⟨by omega, by omega⟩ ⟨by omega, by omega⟩ HF.out _ T3.out.rx).mono ?_
    rintro e w9 ⟨rfl, hb9⟩
    have T4 := Lib.hid ((T3.out.under hb9).under ((Below.refl _ _).alloc (Nat.le_refl _) (.cells #[.int .i64 0, .int .i64 0] 36)))
    have HB9 := Lib.hid ((HB8.out.trans (hb9.mono HB8.out.size)).alloc (HB8.out.trans (hb9.mono HB8.out.size)).size (.cells #[.int .i64 0, .int .i64 0] 36))
    clear hb9
    obtain ⟨c0, c1, c2, f0, f1, f2⟩ := T4.out.bx
    go_wp2_with fail
    refine (finite_any a' n' cap' zs p inc ⟨by omega, by omega⟩ ⟨by omega, by omega⟩ false HF.out _ T4.out.rx).mono ?_
    rintro e w10 ⟨rfl, hb10⟩
    have T5 := Lib.hid (T4.out.under hb10)
    have HB10 := Lib.hid (HB9.out.trans (hb10.mono HB9.out.size))
    clear hb10 c0 c1 c2 f0 f1 f2
    obtain ⟨d0, d1, d2, g0, g1, g2⟩ := T5.out.by'
    obtain ⟨x, rfl, cl⟩ := T5.out.ry.cell j (by have := HJ.out.1; omega)
    rw [HJ.out.2] at cl
    go_wp2_with fail
    refine (awake_all _).mono ?_
    rintro e w11 ⟨rfl, hb11⟩
    go_wp2_with fail
    go_ret
    exact ⟨rfl, HB10.out.trans (hb11.mono HB10.out.size)⟩
  · have HF := Lib.hid (finB_fin ((okC_iff zs p inc).2 OK.out.good) hf)
    obtain ⟨x, y, hxy, hsl, x0, x1, y0, y1⟩ := newF_slope hp1 (by omega) hi0 (by omega)
    obtain ⟨hper, K, hK1, hKp, hKi⟩ := norm_fin OK.out.good hf HN.out (s := s) (HL2.out.trans HS.out)
    obtain ⟨v3, hv3⟩ : ∃ v, atC zs p inc (s + k) = v := ⟨_, rfl⟩
    obtain ⟨v4, hv4⟩ : ∃ v, atC zs p inc (s + k + p2) = v := ⟨_, rfl⟩
    have bd3 := OK.out.good.bd hf (s + k)
    have bd4 := OK.out.good.bd hf (s + k + p2)
    have hg1 : v4 - v3 = inc2 := by have := hper (s + k) (by omega); omega
    rw [hv3] at bd3
    rw [hv4] at bd4
    have hz1 : IntKind.i64.wrap (v4 - v3) = inc2 := by rw [hg1]; exact IntWalk.i64_in _ ⟨by omega, by omega⟩
    have hle2 : inc2 ≤ 1000 := by
      have : inc2 * 1 ≤ inc2 * (K : Int) := Int.mul_le_mul_of_nonneg_left (by omega) b5
      rw [hKi, Int.mul_comm] at hi1
      omega
    obtain ⟨xp, hxp⟩ : ∃ v, x * (p2 : Int) = v := ⟨_, rfl⟩
    have hyp : y * inc2 = xp := by rw [← hxp]; exact (slope_eq hK1 hKp hKi hsl).symm
    have hxb : 0 ≤ xp ∧ xp ≤ 1000 * 1000 := by
      rw [← hyp]
      exact ⟨Int.mul_nonneg (by omega) b5, Int.mul_le_mul (by omega) hle2 b5 (by omega)⟩
    have hz2 : IntKind.i64.wrap (x * (p2 : Int)) = xp := by rw [hxp]; exact IntWalk.i64_in _ ⟨by omega, by omega⟩
    have hz3 : IntKind.i64.wrap (y * inc2) = xp := by rw [hyp]; exact IntWalk.i64_in _ ⟨by omega, by omega⟩
    have HX := Lib.hid (And.intro hxy (And.intro hv3 hv4))
    have HFF := Lib.hid hf
    have HZ := Lib.hid (And.intro hz1 (And.intro hz2 hz3))
    clear hf hxy hsl hper hK1 hKp hKi hv3 hv4 hg1 hxp hyp hz1 hz2 hz3
    refine (slope_ok a' n' cap' zs p inc OK.out.good HFF.out x y HX.out.1 _ T3.out.rx).mono ?_
    rintro e w9 ⟨rfl, hb9⟩
    have T4 := Lib.hid ((T3.out.under hb9).under ((Below.refl _ _).alloc (Nat.le_refl _) (.cells #[.int .i64 x, .int .i64 y] 36)))
    have HB9 := Lib.hid ((HB8.out.trans (hb9.mono HB8.out.size)).alloc (HB8.out.trans (hb9.mono HB8.out.size)).size (.cells #[.int .i64 x, .int .i64 y] 36))
    clear hb9
    obtain ⟨c0, c1, c2, f0, f1, f2⟩ := T4.out.bx
    go_wp2_with fail
    refine (finite_any a' n' cap' zs p inc ⟨by omega, by omega⟩ ⟨by omega, by omega⟩ true HF.out _ T4.out.rx).mono ?_
    rintro e w10 ⟨rfl, hb10⟩
    have T5 := Lib.hid (T4.out.under hb10)
    have HB10 := Lib.hid (HB9.out.trans (hb10.mono HB9.out.size))
    have X10 := Lib.hid (show w10.cell? ⟨w9.heap.size, 0, none⟩ = some (.int .i64 x) ∧ w10.cell? ⟨w9.heap.size, 1, none⟩ = some (.int .i64 y) from
      ⟨(hb10.cell (p := ⟨w9.heap.size, 0, none⟩) (by simp)).trans (by go_simp), (hb10.cell (p := ⟨w9.heap.size, 1, none⟩) (by simp)).trans (by go_simp)⟩)
    clear hb10 c0 c1 c2 f0 f1 f2
    obtain ⟨c0, c1, c2, f0, f1, f2⟩ := T5.out.bx
    go_wp2_with fail
    refine (start_at a' n' cap' zs p inc OK.out.good HN.out s (HL2.out.trans HS.out) _ T5.out.rx).mono ?_
    rintro e w11 ⟨rfl, hb11⟩
    have T6 := Lib.hid (T5.out.under hb11)
    have HB11 := Lib.hid (HB10.out.trans (hb11.mono HB10.out.size))
    have X11 := Lib.hid (show w11.cell? ⟨w9.heap.size, 0, none⟩ = some (.int .i64 x) ∧ w11.cell? ⟨w9.heap.size, 1, none⟩ = some (.int .i64 y) from
      ⟨(hb11.cell (p := ⟨w9.heap.size, 0, none⟩) (lt_of_cell X10.out.1)).trans X10.out.1, (hb11.cell (p := ⟨w9.heap.size, 1, none⟩) (lt_of_cell X10.out.2)).trans X10.out.2⟩)
    clear hb11 c0 c1 c2 f0 f1 f2
    obtain ⟨c0, c1, c2, f0, f1, f2⟩ := T6.out.bx
    go_wp2_with fail
    refine (value_at a' n' cap' zs p inc OK.out.good _ (s + k) (by omega) (by omega) v3 HX.out.2.1 _ T6.out.rx).mono ?_
    rintro e w12 ⟨rfl, hb12⟩
    have T7 := Lib.hid (T6.out.under hb12)
    have HB12 := Lib.hid (HB11.out.trans (hb12.mono HB11.out.size))
    have X12 := Lib.hid (show w12.cell? ⟨w9.heap.size, 0, none⟩ = some (.int .i64 x) ∧ w12.cell? ⟨w9.heap.size, 1, none⟩ = some (.int .i64 y) from
      ⟨(hb12.cell (p := ⟨w9.heap.size, 0, none⟩) (lt_of_cell X11.out.1)).trans X11.out.1, (hb12.cell (p := ⟨w9.heap.size, 1, none⟩) (lt_of_cell X11.out.2)).trans X11.out.2⟩)
    clear hb12 c0 c1 c2 f0 f1 f2
    obtain ⟨c0, c1, c2, f0, f1, f2⟩ := T7.out.bx
    obtain ⟨d0, d1, d2, g0, g1, g2⟩ := T7.out.by'
    go_wp2_with fail
    refine (value_at a' n' cap' zs p inc OK.out.good _ (s + k + p2) (by omega) (by omega) v4 HX.out.2.2 _ T7.out.rx).mono ?_
    rintro e w13 ⟨rfl, hb13⟩
    have T8 := Lib.hid (T7.out.under hb13)
    have HB13 := Lib.hid (HB12.out.trans (hb13.mono HB12.out.size))
    have X13 := Lib.hid (show w13.cell? ⟨w9.heap.size, 0, none⟩ = some (.int .i64 x) ∧ w13.cell? ⟨w9.heap.size, 1, none⟩ = some (.int .i64 y) from
      ⟨(hb13.cell (p := ⟨w9.heap.size, 0, none⟩) (lt_of_cell X12.out.1)).trans X12.out.1, (hb13.cell (p := ⟨w9.heap.size, 1, none⟩) (lt_of_cell X12.out.2)).trans X12.out.2⟩)
    clear hb13 c0 c1 c2 f0 f1 f2 d0 d1 d2 g0 g1 g2
    obtain ⟨d0, d1, d2, g0, g1, g2⟩ := T8.out.by'
    obtain ⟨e0, e1⟩ := X13.out
    obtain ⟨hz1, hz2, hz3⟩ := HZ.out
    go_wp2_with fail
    refine (awake_all _).mono ?_
    rintro e w14 ⟨rfl, hb14⟩
    go_wp2_with fail
    go_ret
    exact ⟨rfl, HB13.out.trans (hb14.mono HB13.out.size)⟩

end Go.Proofs.Ytdakadgfnlpogaa
