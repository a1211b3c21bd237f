/- The walk of OrderDual. By the verifier's side. -/
import Derived.Test.YtgdkjmmlgnmidaaOrdW
import Derived.Test.YtgdkjmmlgnmidaaKeepC
namespace Go.Proofs.Ytgdkjmmlgnmidaa
open Go.RowKit
set_option linter.unusedSimpArgs false

theorem dC_neg (zs : List Int) (p : Nat) (inc : Int) (ys : List Int) (q : Nat) (jnc : Int) (t : Nat) : dC ys q jnc zs p inc t = -dC zs p inc ys q jnc t := by
  by_cases h1 : InfC zs ∧ atC zs p inc t = infV <;> by_cases h2 : InfC ys ∧ atC ys q jnc t = infV
  · rw [dC_both h1 h2, dC_both h2 h1]; rfl
  · unfold dC; rw [if_neg h2, if_pos h1, if_pos h1, if_neg h2]
  · unfold dC; rw [if_pos h2, if_neg h1, if_neg h1, if_pos h2]; rfl
  · unfold dC; rw [if_neg h2, if_neg h1, if_neg h1, if_neg h2]; omega

/-- What the four answers have to do with each other. -/
theorem dual_math {d d' : Nat → Int} (hd : ∀ t, d' t = -d t) {t u x m : Int} {ok is ex me : Bool} (h1 : SetP d t ok) (h2 : SetP d' u is) (h3 : ExcP d x ex) (h4 : MeetP d m me) :
    (ok = true → 0 ≤ t ∧ (ex = true → 0 < t ∧ x < t) ∧ (ex = false → t = 0)) ∧ (ok = false → ex = true ∧ me = false) ∧ (ok = true → me = is ∧ (is = true → 0 ≤ u ∧ m = max t u)) := by
  refine ⟨fun ho => ?_, fun ho => ?_, fun ho => ?_⟩
  · subst ho
    rcases h1 with ⟨_, T, rfl, k1, k2⟩ | ⟨hh, _⟩
    · refine ⟨by omega, fun he => ?_, fun he => ?_⟩
      · subst he
        rcases h3 with ⟨_, X, rfl, j1, j2⟩ | ⟨hh, _⟩
        · have : X < T := by
            refine Classical.byContradiction fun hn => ?_
            have := k1 X (by omega); omega
          omega
        · cases hh
      · subst he
        rcases h3 with ⟨hh, _⟩ | ⟨_, _, j1⟩
        · cases hh
        · rcases k2 with k2 | k2
          · omega
          · have := j1 (T - 1); omega
    · cases hh
  · subst ho
    rcases h1 with ⟨hh, _⟩ | ⟨_, _, k1⟩
    · cases hh
    · constructor
      · rcases h3 with ⟨he, _⟩ | ⟨_, _, j1⟩
        · exact he
        · obtain ⟨v, _, hv⟩ := k1 0
          have := j1 v; omega
      · rcases h4 with ⟨_, M, _, j1, _⟩ | ⟨he, _⟩
        · obtain ⟨v, hv1, hv⟩ := k1 M
          have := j1 v hv1; omega
        · exact he
  · subst ho
    rcases h1 with ⟨_, T, rfl, k1, k2⟩ | ⟨hh, _⟩
    · rcases h2 with ⟨rfl, U, rfl, i1, i2⟩ | ⟨rfl, _, i1⟩
      · rcases h4 with ⟨rfl, M, rfl, j1, j2⟩ | ⟨rfl, _, j1⟩
        · refine ⟨rfl, fun _ => ⟨by omega, ?_⟩⟩
          have a1 : T ≤ M := by
            refine Classical.byContradiction fun hn => ?_
            rcases k2 with k2 | k2
            · omega
            · have := j1 (T - 1) (by omega); omega
          have a2 : U ≤ M := by
            refine Classical.byContradiction fun hn => ?_
            rcases i2 with i2 | i2
            · omega
            · have := j1 (U - 1) (by omega); have := hd (U - 1); omega
          have a3 : M ≤ T ∨ M ≤ U := by
            refine Classical.byContradiction fun hn => ?_
            rcases j2 with j2 | j2
            · omega
            · have := k1 (M - 1) (by omega); have := i1 (M - 1) (by omega); have := hd (M - 1); omega
          omega
        · obtain ⟨v, hv1, hv⟩ := j1 (max T U)
          have := k1 v (by omega); have := i1 v (by omega); have := hd v; omega
      · rcases h4 with ⟨rfl, M, rfl, j1, j2⟩ | ⟨rfl, _, j1⟩
        · obtain ⟨v, hv1, hv⟩ := i1 M
          have := j1 v hv1; have := hd v; omega
        · exact ⟨rfl, fun hh => by cases hh⟩
    · cases hh

set_option maxRecDepth 100000 in
set_option maxHeartbeats 6400000 in
theorem orderDual_walk (W : World) (a : Option Addr) (n cap : Nat) (hrow : RowAt W a n cap) :
    Calls Try.prog 8 #[.slice a n cap] W fun e w' => e = .returned (.bool true) ∧ Below W.heap.size W w' := by
  have HR := Lib.hid hrow
  clear hrow
  go_enter Try.func8, Try.ntmps8
  go_wp2_with fail
  refine (new_any a n cap _ HR.out).mono ?_
  rintro e w1 ⟨rfl, hb1, hz1, ra, rn, rc, hs1⟩
  have HB1 := Lib.hid hb1
  have HS1 := Lib.hid hs1
  have Z1 := Lib.hid hz1
  clear hb1 hz1 hs1
  go_wp2_with fail
  refine (curve_any 6 (by omega) (by omega) _ ra rn rc _ HS1.out).mono ?_
  rintro e w2 ⟨a1, n1, cap1, zs, p, inc, rfl, hs2, he2, hr2, ok, hx2⟩
  have HG := Lib.hid ok.good
  have HS2 := Lib.hid hs2
  have HR2 := Lib.hid hr2
  have HX2 := Lib.hid (show ∀ x, a1 = some x → ¬ x.block = W.heap.size from fun x hx => by have := hx2 x hx; have := Z1.out; omega)
  have HB2 := Lib.hid (HB1.out.trans (he2.below (Nat.le_refl _) HB1.out.size))
  clear hs2 he2 hr2 ok hx2
  go_wp2_with fail
  refine (curve_any 6 (by omega) (by omega) _ ra rn rc _ HS2.out).mono ?_
  rintro e w3 ⟨a2, n2, cap2, ys, q, jnc, rfl, hs3, he3, hr3, ok3, hx3⟩
  have HK := Lib.hid ok3.good
  have HB3 := Lib.hid ((HB2.out.trans (he3.below (Nat.le_refl _) HB2.out.size)).trans ((two_boxes w3 (.cells #[.slice a1 n1 cap1, .int .i64 p, .int .i64 inc] 24) (.cells #[.slice a2 n2 cap2, .int .i64 q, .int .i64 jnc] 24)).mono (HB2.out.trans (he3.below (Nat.le_refl _) HB2.out.size)).size))
  have T3 := Lib.hid (show Two ((w3.alloc (.cells #[.slice a1 n1 cap1, .int .i64 p, .int .i64 inc] 24)).alloc (.cells #[.slice a2 n2 cap2, .int .i64 q, .int .i64 jnc] 24)) w3.heap.size a1 n1 cap1 p inc zs (w3.heap.size + 1) a2 n2 cap2 q jnc ys from
    ⟨(Cur3.new w3 _ _ _ _).alloc _, ((HR2.out.apart he3 HX2.out).alloc _).alloc _, Cur3.new2 w3 _ _ _ _ _, (hr3.alloc _).alloc _⟩)
  clear hs3 he3 hr3 ok3 hx3
  go_wp2_with fail
  generalize (w3.alloc (.cells #[.slice a1 n1 cap1, .int .i64 p, .int .i64 inc] 24)).alloc (.cells #[.slice a2 n2 cap2, .int .i64 q, .int .i64 jnc] 24) = w4 at HB3 T3 ⊢
  obtain ⟨t, ok, ht⟩ := setP_ex (dC zs p inc ys q jnc)
  obtain ⟨u, is, hu⟩ := setP_ex (dC ys q jnc zs p inc)
  obtain ⟨x, ex, hx⟩ := excP_ex (dC zs p inc ys q jnc)
  obtain ⟨m, me, hm⟩ := meetP_ex (dC zs p inc ys q jnc)
  have M1 := Lib.hid ht
  have M2 := Lib.hid hu
  have M3 := Lib.hid hx
  have M4 := Lib.hid hm
  clear ht hu hx hm
  refine (settles_ok a1 n1 cap1 zs p inc HG.out a2 n2 cap2 ys q jnc HK.out t ok _ T3.out.rx T3.out.ry M1.out).mono ?_
  rintro e w5 ⟨rfl, hb⟩
  have T5 := Lib.hid (T3.out.under hb)
  have HB5 := Lib.hid (HB3.out.trans (hb.mono HB3.out.size))
  obtain ⟨c0, c1, c2, f0, f1, f2⟩ := T5.out.bx
  obtain ⟨d0, d1, d2, g0, g1, g2⟩ := T5.out.by'
  clear hb T3 HB3
  go_wp2_with fail
  clear c0 c1 c2 f0 f1 f2 d0 d1 d2 g0 g1 g2
  refine (settles_ok a2 n2 cap2 ys q jnc HK.out a1 n1 cap1 zs p inc HG.out u is _ T5.out.ry T5.out.rx M2.out).mono ?_
  rintro e w6 ⟨rfl, hb⟩
  have T6 := Lib.hid (T5.out.under hb)
  have HB6 := Lib.hid (HB5.out.trans (hb.mono HB5.out.size))
  obtain ⟨c0, c1, c2, f0, f1, f2⟩ := T6.out.bx
  obtain ⟨d0, d1, d2, g0, g1, g2⟩ := T6.out.by'
  clear hb T5 HB5
  go_wp2_with fail
  clear c0 c1 c2 f0 f1 f2 d0 d1 d2 g0 g1 g2
  refine (exceeds_ok a1 n1 cap1 zs p inc HG.out a2 n2 cap2 ys q jnc HK.out x ex _ T6.out.rx T6.out.ry M3.out).mono ?_
  rintro e w7 ⟨rfl, hb⟩
  have T7 := Lib.hid (T6.out.under hb)
  have HB7 := Lib.hid (HB6.out.trans (hb.mono HB6.out.size))
  obtain ⟨c0, c1, c2, f0, f1, f2⟩ := T7.out.bx
  obtain ⟨d0, d1, d2, g0, g1, g2⟩ := T7.out.by'
  clear hb T6 HB6
  go_wp2_with fail
  clear c0 c1 c2 f0 f1 f2 d0 d1 d2 g0 g1 g2
  refine (meets_ok a1 n1 cap1 zs p inc HG.out a2 n2 cap2 ys q jnc HK.out m me _ T7.out.rx T7.out.ry M4.out).mono ?_
  rintro e w8 ⟨rfl, hb⟩
  have HB8 := Lib.hid (HB7.out.trans (hb.mono HB7.out.size))
  obtain ⟨k1, k2, k3⟩ := dual_math (dC_neg zs p inc ys q jnc) M1.out M2.out M3.out M4.out
  clear hb T7 HB7 M1 M2 M3 M4
  cases ok with
  | false =>
    obtain ⟨rfl, rfl⟩ := k2 rfl
    clear k1 k2 k3
    go_wp2_with fail
    refine (awake4 _).mono ?_
    rintro e w9 ⟨rfl, hb⟩
    have HB9 := Lib.hid (HB8.out.trans (hb.mono HB8.out.size))
    clear hb
    go_wp2_with fail
    go_ret
    exact ⟨rfl, HB9.out⟩
  | true =>
    obtain ⟨ht0, j1, j2⟩ := k1 rfl
    obtain ⟨j3, j4⟩ := k3 rfl
    subst j3
    clear k1 k2 k3
    have hx : (ex = true → x < t) ∧ (ex = true → 0 < t) := ⟨fun h => (j1 h).2, fun h => (j1 h).1⟩
    cases me with
    | false =>
      clear j4
      cases ex with
      | false =>
        obtain rfl := j2 rfl
        clear j1 j2 hx ht0
        go_wp2_with fail
        refine (awake4 _).mono ?_
        rintro e w9 ⟨rfl, hb⟩
        have HB9 := Lib.hid (HB8.out.trans (hb.mono HB8.out.size))
        clear hb
        go_wp2_with fail
        go_ret
        exact ⟨rfl, HB9.out⟩
      | true =>
        have q1 := hx.1 rfl
        have q2 := hx.2 rfl
        clear j1 j2 hx
        go_wp2_with fail
        refine (awake4 _).mono ?_
        rintro e w9 ⟨rfl, hb⟩
        have HB9 := Lib.hid (HB8.out.trans (hb.mono HB8.out.size))
        clear hb
        go_wp2_with fail
        go_ret
        exact ⟨rfl, HB9.out⟩
    | true =>
      obtain ⟨hu0, hm⟩ := j4 rfl
      clear j4
      rcases Int.lt_or_le t u with hlt | hle
      · obtain rfl : m = u := by omega
        clear hm
        cases ex with
        | false =>
          obtain rfl := j2 rfl
          clear j1 j2 hx ht0
          go_wp2_with fail
          refine (awake4 _).mono ?_
          rintro e w9 ⟨rfl, hb⟩
          have HB9 := Lib.hid (HB8.out.trans (hb.mono HB8.out.size))
          clear hb
          go_wp2_with fail
          go_ret
          exact ⟨rfl, HB9.out⟩
        | true =>
          have q1 := hx.1 rfl
          have q2 := hx.2 rfl
          clear j1 j2 hx
          go_wp2_with fail
          refine (awake4 _).mono ?_
          rintro e w9 ⟨rfl, hb⟩
          have HB9 := Lib.hid (HB8.out.trans (hb.mono HB8.out.size))
          clear hb
          go_wp2_with fail
          go_ret
          exact ⟨rfl, HB9.out⟩
      · obtain rfl : m = t := by omega
        have hle' : ¬ m < u := by omega
        clear hm
        cases ex with
        | false =>
          obtain rfl := j2 rfl
          clear j1 j2 hx ht0
          go_wp2_with fail
          refine (awake4 _).mono ?_
          rintro e w9 ⟨rfl, hb⟩
          have HB9 := Lib.hid (HB8.out.trans (hb.mono HB8.out.size))
          clear hb
          go_wp2_with fail
          go_ret
          exact ⟨rfl, HB9.out⟩
        | true =>
          have q1 := hx.1 rfl
          have q2 := hx.2 rfl
          clear j1 j2 hx
          go_wp2_with fail
          refine (awake4 _).mono ?_
          rintro e w9 ⟨rfl, hb⟩
          have HB9 := Lib.hid (HB8.out.trans (hb.mono HB8.out.size))
          clear hb
          go_wp2_with fail
          go_ret
          exact ⟨rfl, HB9.out⟩
end Go.Proofs.Ytgdkjmmlgnmidaa
