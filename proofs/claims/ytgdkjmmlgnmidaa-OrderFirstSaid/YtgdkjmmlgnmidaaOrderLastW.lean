/- The walk of OrderLast. By the verifier's side. -/
import Derived.Test.YtgdkjmmlgnmidaaOrderIsOrderW
namespace Go.Proofs.Ytgdkjmmlgnmidaa
open Go.RowKit
set_option linter.unusedSimpArgs false

theorem set_falls {d : Nat → Int} {S L : Nat} {c : Int} (hP : Per d S L c) (hL : 1 ≤ L) (hc : c ≤ 0) (h : ∀ r, r < L → d (S + r) ≤ 0) : ∀ u, S ≤ u → d u ≤ 0 := fun u hu => by
  obtain ⟨r, j, hr, rfl⟩ := tick_split (S := S) hL hu
  rw [hP.to r j]
  have h1 := h r hr
  have h2 : (j : Int) * c ≤ 0 := Int.mul_nonpos_of_nonneg_of_nonpos (by omega) hc
  omega
theorem below_max' (d : Nat → Int) (L : Nat) : ∃ M : Nat, ∀ r, r < L → d r ≤ M := by
  induction L with
  | zero => exact ⟨0, fun r hr => absurd hr (Nat.not_lt_zero _)⟩
  | succ L ih =>
    obtain ⟨M, hM⟩ := ih
    refine ⟨M + (d L).toNat, fun r hr => ?_⟩
    by_cases h : r = L
    · subst h; omega
    · have := hM r (by omega); omega
theorem set_down' {d : Nat → Int} {S L : Nat} {c : Int} (hP : Per d S L c) (hL : 1 ≤ L) (hc : c < 0) : ∃ T : Nat, ∀ u, T ≤ u → d u ≤ 0 := by
  obtain ⟨M, hM⟩ := below_max' (fun r => d (S + r)) L
  refine ⟨S + M * L, fun u hu => ?_⟩
  obtain ⟨r, j, hr, rfl⟩ := tick_split (S := S) hL (show S ≤ u by omega)
  rw [hP.to r j]
  have h1 := hM r hr
  have h2 : M ≤ j := by
    refine Classical.byContradiction fun hn => ?_
    have h3 : (j + 1) * L ≤ M * L := Nat.mul_le_mul_right L (by omega)
    rw [Nat.succ_mul] at h3
    omega
  have h4 : (j : Int) * c ≤ (j : Int) * (-1) := Int.mul_le_mul_of_nonneg_left (by omega) (by omega)
  have h1' : d (S + r) ≤ M := h1
  omega

/-- What is positive again and again is so in each window. -/
theorem window_math {d : Nat → Int} {S L : Nat} {c : Int} (hP : Per d S L c) (hL : 1 ≤ L) (hL2 : L ≤ 64) (hS : S ≤ 14) (hd : 0 < c → -200 ≤ d S) (h : ∀ T : Nat, ∃ u, T ≤ u ∧ 0 < d u) (fr : Nat) (hf : 100 ≤ fr) : ∃ n, fr ≤ n ∧ n < fr + 40000 ∧ 0 < d n := by
  rcases Int.lt_trichotomy c 0 with hc | hc | hc
  · obtain ⟨T, hT⟩ := set_down' hP hL hc
    obtain ⟨u, hu, hp⟩ := h T
    have := hT u hu; omega
  · subst hc
    have hr : ∃ r, r < L ∧ 0 < d (S + r) := by
      refine Classical.byContradiction fun hn => ?_
      obtain ⟨u, hu, hp⟩ := h S
      have := set_falls hP hL (Int.le_refl _) (fun r hr => Classical.byContradiction fun hx => hn ⟨r, hr, by omega⟩) u hu
      omega
    obtain ⟨r, hr, hp⟩ := hr
    have h1 := Nat.mod_add_div (fr - (S + r)) L
    have h2 := Nat.mod_lt (fr - (S + r)) hL
    rw [Nat.mul_comm] at h1
    refine ⟨S + r + ((fr - (S + r)) / L + 1) * L, ?_, ?_, ?_⟩
    · rw [Nat.succ_mul]; omega
    · rw [Nat.succ_mul]; omega
    · rw [hP.to r]; omega
  · have h1 := Nat.mod_add_div (fr - S) L
    have h2 := Nat.mod_lt (fr - S) hL
    rw [Nat.mul_comm] at h1
    generalize (fr - S) % L = R at h1 h2
    generalize (fr - S) / L = Q at h1
    have h3 : 202 * L ≤ 202 * 64 := Nat.mul_le_mul_left 202 hL2
    have h4 : (Q + 202) * L = Q * L + 202 * L := Nat.add_mul _ _ _
    refine ⟨S + 0 + (Q + 202) * L, ?_, ?_, ?_⟩
    · rw [h4]; omega
    · rw [h4]; omega
    · rw [hP.to 0]
      have h5 : ((Q + 202 : Nat) : Int) * 1 ≤ ((Q + 202 : Nat) : Int) * c := Int.mul_le_mul_of_nonneg_left hc (by omega)
      have h6 := hd hc
      rw [Nat.add_zero]
      omega

theorem window_curves {most : Nat} {zs ys : List Int} {p q : Nat} {inc jnc : Int} (hm : most ≤ 7) (o : OkCur most zs p inc) (k : OkCur most ys q jnc) (h : ∀ T : Nat, ∃ u, T ≤ u ∧ 0 < dC zs p inc ys q jnc u) (fr : Nat) (hf : 100 ≤ fr) : ∃ n, fr ≤ n ∧ n < fr + 40000 ∧ 0 < dC zs p inc ys q jnc n := by
  have hL := lcm_of o.good.p1 k.good.p1 (L := p / Nat.gcd p q * q) rfl
  generalize p / Nat.gcd p q * q = L at hL
  obtain ⟨S, hS⟩ : ∃ S, max (zs.length - p) (ys.length - q) = S := ⟨_, rfl⟩
  have hP := dC_per o.good k.good hL (show zs.length - p ≤ S by omega) (show ys.length - q ≤ S by omega)
  have f1 := o.few; have f2 := k.few; have p1 := o.good.p1; have q1 := k.good.p1
  have hLL : L ≤ 64 := Nat.le_trans hL.le (Nat.mul_le_mul o.p8 k.p8)
  refine window_math hP hL.one hLL (by omega) (fun hc => ?_) h fr hf
  have hne : ¬ growC zs p inc ys q jnc L = 0 := by omega
  obtain ⟨i1, i2⟩ := growC_ne o.good k.good hne
  rw [dC_fin i1 i2]
  have b1 := o.good.nonneg S
  have b2 := k.slow i2 S
  omega

theorem last_math {d : Nat → Int} {t : Int} {ok : Bool} (h : SetP d t ok) : (ok = false → t = 0 ∧ AtM false d ∧ ∀ T : Nat, ∃ u, T ≤ u ∧ 0 < d u) ∧
    (ok = true → ∃ T : Nat, t = T ∧ (∀ u, T ≤ u → d u ≤ 0) ∧ (T = 0 → AtM true d) ∧ (0 < T → AtM false d ∧ 0 < d (T - 1))) := by
  rcases h with ⟨rfl, T, rfl, h1, h2⟩ | ⟨rfl, rfl, h1⟩
  · refine ⟨fun h => (by cases h), fun _ => ⟨T, rfl, h1, fun h0 => ⟨fun _ u => h1 u (by omega), fun _ => rfl⟩, fun h0 => ?_⟩⟩
    rcases h2 with h2 | h2
    · omega
    · exact ⟨⟨(fun h => by cases h), fun h => by have := h (T - 1); omega⟩, h2⟩
  · refine ⟨fun _ => ⟨rfl, ⟨(fun h => by cases h), fun h => ?_⟩, h1⟩, fun h => (by cases h)⟩
    obtain ⟨u, _, hu⟩ := h1 0
    have := h u; omega

/-- The sign of the difference, seen in the values. -/
theorem seen_le {zs ys : List Int} {p q : Nat} {inc jnc : Int} (g : Good zs p inc) (k : Good ys q jnc) {t : Nat} (ht : t ≤ 1048576) : dC zs p inc ys q jnc t ≤ 0 ↔ atC zs p inc t ≤ atC ys q jnc t := by
  have := (dC_sign g k ht).1
  omega

set_option maxRecDepth 100000 in
set_option maxHeartbeats 6400000 in
theorem orderLast_walk (W : World) (a : Option Addr) (n cap : Nat) (hrow : RowAt W a n cap) :
    Calls Try.prog 5 #[.slice a n cap] W fun e w' => e = .returned (.bool true) ∧ Below W.heap.size W w' := by
  have HR := Lib.hid hrow
  clear hrow
  go_enter Try.func5, Try.ntmps5
  go_wp2_with fail
  refine (new_any a n cap _ HR.out).mono ?_
  rintro e w1 ⟨rfl, hb1, hz1, ra, rn, rc, hs1⟩
  have HB1 := Lib.hid hb1
  have HS1 := Lib.hid hs1
  have Z1 := Lib.hid hz1
  clear hb1 hz1 hs1
  go_wp2_with fail
  refine (curve_any 7 (by omega) (by omega) _ ra rn rc _ HS1.out).mono ?_
  rintro e w2 ⟨a1, n1, cap1, zs, p, inc, rfl, hs2, he2, hr2, ok1, hx2⟩
  have OK := Lib.hid ok1
  have HS2 := Lib.hid hs2
  have HR2 := Lib.hid hr2
  have HX2 := Lib.hid (show ∀ x, a1 = some x → ¬ x.block = W.heap.size from fun x hx => by have := hx2 x hx; have := Z1.out; omega)
  have HB2 := Lib.hid (HB1.out.trans (he2.below (Nat.le_refl _) HB1.out.size))
  have hsz2 := Lib.hid he2.size
  clear hs2 he2 hr2 ok1 hx2
  go_wp2_with fail
  refine (curve_any 7 (by omega) (by omega) _ ra rn rc _ HS2.out).mono ?_
  rintro e w3 ⟨a2, n2, cap2, ys, q, jnc, rfl, hs3, he3, hr3, ok3, hx3⟩
  have OK3 := Lib.hid ok3
  have HB3 := Lib.hid (HB2.out.trans (he3.below (Nat.le_refl _) HB2.out.size))
  have hn1 : 1 ≤ n1 := by have := ok_pos OK.out; have := HR2.out.len; omega
  have R1 := HR2.out.apart he3 HX2.out
  have hxf : ∀ x, a1 = some x → ¬ x.block = W.heap.size ∧ ¬ x.block = w3.heap.size + 1 := fun x hx => ⟨HX2.out x hx, by have := row_lt R1 hn1 x hx; omega⟩
  have hxg : ∀ x, a2 = some x → ¬ x.block = W.heap.size := fun x hx => by have := hx3 x hx; have := hsz2.out; have := Z1.out; omega
  have C3 := Lib.hid (show Ce w3 W.heap.size ra rn rc w3.heap.size a1 n1 cap1 p inc zs (w3.heap.size + 1) a2 n2 cap2 q jnc ys ((w3.alloc (.cells #[.slice a1 n1 cap1, .int .i64 p, .int .i64 inc] 24)).alloc (.cells #[.slice a2 n2 cap2, .int .i64 q, .int .i64 jnc] 24)) from
    ⟨((Held.start hs3).alloc _).alloc _, (Cur3.new w3 _ _ _ _).alloc _, (R1.alloc _).alloc _, Cur3.new2 w3 _ _ _ _ _, (hr3.alloc _).alloc _, hs3.lt, Nat.le_refl _, Nat.le_succ _, by omega, hxf, hxg⟩)
  have HS3 := Lib.hid hs3
  clear hs3 he3 hr3 ok3 hx3 hxf hxg R1 hn1
  go_wp2_with fail
  generalize (w3.alloc (.cells #[.slice a1 n1 cap1, .int .i64 p, .int .i64 inc] 24)).alloc (.cells #[.slice a2 n2 cap2, .int .i64 q, .int .i64 jnc] 24) = w4 at C3 ⊢
  obtain ⟨t, ok, ht⟩ := setP_ex (dC zs p inc ys q jnc)
  have M1 := Lib.hid ht
  obtain ⟨k1, k2⟩ := last_math ht
  have HG := Lib.hid OK.out.good
  have HK := Lib.hid OK3.out.good
  clear ht
  refine (settles_ok a1 n1 cap1 zs p inc HG.out a2 n2 cap2 ys q jnc HK.out t ok _ C3.out.rf C3.out.rg M1.out).mono ?_
  rintro e w5 ⟨rfl, hb⟩
  have C5 := Lib.hid (C3.out.below hb)
  obtain ⟨c0, c1, c2, f0, f1, f2⟩ := C5.out.bf
  obtain ⟨d0, d1, d2, g0, g1, g2⟩ := C5.out.bg
  clear hb C3 M1
  cases ok with
  | false =>
    obtain ⟨rfl, km, kw⟩ := k1 rfl
    have KM := Lib.hid km
    have KW := Lib.hid kw
    clear k1 k2 km kw
    go_wp2_with fail
    clear c0 c1 c2 f0 f1 f2 d0 d1 d2 g0 g1 g2
    refine (atMost_at a1 n1 cap1 zs p inc HG.out a2 n2 cap2 ys q jnc HK.out false KM.out _ C5.out.rf C5.out.rg).mono ?_
    rintro e w6 ⟨rfl, hb⟩
    have C6 := Lib.hid (C5.out.below hb)
    clear hb C5
    go_wp2_with fail
    refine (n_any 1000 (by omega) (by omega) W.heap.size ra rn rc _ (C6.out.held.at HS3.out)).mono ?_
    rintro e w7 ⟨r, ⟨hr0, hr1⟩, rfl, hs, he⟩
    have C7 := Lib.hid (C6.out.call hs he.apart)
    obtain ⟨fr, hfr⟩ : ∃ fr : Nat, 100 + r = (fr : Int) := ⟨(100 + r).toNat, by omega⟩
    have hfr1 : 100 ≤ fr := by omega
    have hfr2 : fr ≤ 1100 := by omega
    obtain ⟨Nw, hN1, hN2, hN3⟩ := window_curves (Nat.le_refl 7) OK.out OK3.out KW.out fr hfr1
    have HN := Lib.hid hN3
    have HN2 := Lib.hid hN2
    have HB7 := Lib.hid (HB3.out.trans (C7.out.held.ap.below (Nat.le_refl _) HB3.out.size))
    have T7 := Lib.hid (show Two w7 w3.heap.size a1 n1 cap1 p inc zs (w3.heap.size + 1) a2 n2 cap2 q jnc ys from ⟨C7.out.bf, C7.out.rf, C7.out.bg, C7.out.rg⟩)
    clear hs he C6 C7 hN3 hN2
    go_wp2_with fail
    go_loopw [10] (fun s10 wx => ∃ k : Nat, s10 = .int .i64 k ∧ fr ≤ k ∧ k ≤ Nw ∧ Hid (Below w7.heap.size w7 wx)) (fun s10 _ => Nw + 1 - (intOf s10).toNat)
    case atStart => exact ⟨fr, rfl, Nat.le_refl _, hN1, Below.refl _ _⟩
    case round =>
      obtain ⟨k, rfl, hk1, hk2, HX⟩ := hrel
      obtain ⟨w8, rfl⟩ : ∃ u : World, u = wr := ⟨_, rfl⟩
      have hlt : (k : Int) < (fr : Int) + 40000 := by have := HN2.out; omega
      have hkm : k ≤ 1048576 := by have := HN2.out; omega
      obtain ⟨v1, hv1⟩ : ∃ v, atC zs p inc k = v := ⟨_, rfl⟩
      obtain ⟨v2, hv2⟩ : ∃ v, atC ys q jnc k = v := ⟨_, rfl⟩
      have hsg := seen_le HG.out HK.out hkm
      rw [hv1, hv2] at hsg
      have HSG := Lib.hid hsg
      have V1 := Lib.hid hv1
      have V2 := Lib.hid hv2
      have T8 := Lib.hid (T7.out.under HX.out)
      clear hv1 hv2 hsg
      go_wp2_with fail
      clear hlt
      go_region_held3 (fun u => Two6 w8 w3.heap.size a1 n1 cap1 p inc zs (w3.heap.size + 1) a2 n2 cap2 q jnc ys u)
        (first | with_reducible exact two6_drew T8.out | with_reducible exact two6_call (by assumption) hbx)
        (first
          | (go_at_call 25; ((with_reducible refine (value4 a1 n1 cap1 zs p inc HG.out k k rfl hkm v1 V1.out _ (two6_of (by assumption)).rx).mono ?_); rintro e w9 ⟨rfl, hbx⟩))
          | (go_at_call 25; ((with_reducible refine (value4 a2 n2 cap2 ys q jnc HK.out k k rfl hkm v2 V2.out _ (two6_of (by assumption)).ry).mono ?_); rintro e w10 ⟨rfl, hbx⟩)))
      have hT : Two6 w8 w3.heap.size a1 n1 cap1 p inc zs (w3.heap.size + 1) a2 n2 cap2 q jnc ys w10 := by assumption
      have HX2 := Lib.hid (HX.out.trans ((two6_below hT).mono HX.out.size))
      clear hT
      by_cases hpos : v2 < v1
      · go_wp2_with fail
        refine (awake4 _).mono ?_
        rintro e w11 ⟨rfl, hb⟩
        have HB11 := Lib.hid ((HB7.out.trans (HX2.out.mono HB7.out.size)).trans (hb.mono (HB7.out.trans (HX2.out.mono HB7.out.size)).size))
        clear hb
        go_wp2_with fail
        go_ret
        exact ⟨rfl, HB11.out⟩
      · have hk3 : k < Nw := by
          refine Nat.lt_of_le_of_ne hk2 fun he => ?_
          subst he
          have := HSG.out.2 (by omega)
          have := HN.out
          omega
        go_wp2_with fail
        exact ⟨⟨k + 1, by go_num, by omega, by omega, HX2⟩, by simp [intOf]; omega⟩
  | true =>
    obtain ⟨T, hT, kt, k0, kp⟩ := k2 rfl
    have HT := Lib.hid hT
    have KT := Lib.hid kt
    have KP := Lib.hid kp
    have ht0 : 0 ≤ t := by omega
    by_cases h0 : t = 0
    · have KM := Lib.hid (k0 (by omega))
      subst h0
      clear k1 k2 kt k0 kp hT KP
      go_wp2_with fail
      clear c0 c1 c2 f0 f1 f2 d0 d1 d2 g0 g1 g2
      refine (atMost_at a1 n1 cap1 zs p inc HG.out a2 n2 cap2 ys q jnc HK.out true KM.out _ C5.out.rf C5.out.rg).mono ?_
      rintro e w6 ⟨rfl, hb⟩
      have C6 := Lib.hid (C5.out.below hb)
      clear hb C5
      go_wp2_with fail
      go_loopw [11] (fun s11 wx => ∃ k : Nat, s11 = .int .i64 k ∧ k ≤ 60 ∧ Hid (Ce w3 W.heap.size ra rn rc w3.heap.size a1 n1 cap1 p inc zs (w3.heap.size + 1) a2 n2 cap2 q jnc ys wx)) (fun s11 _ => 60 - (intOf s11).toNat)
      case atStart => exact ⟨0, by go_num, by omega, C6⟩
      case round =>
        clear C6
        obtain ⟨k, rfl, hk, C7⟩ := hrel
        obtain ⟨w7, rfl⟩ : ∃ u : World, u = wr := ⟨_, rfl⟩
        by_cases hk6 : k < 60
        · have hk7 : (k : Int) < 60 := by omega
          go_wp2_with fail
          refine (n_any 500 (by omega) (by omega) W.heap.size ra rn rc _ (C7.out.held.at HS3.out)).mono ?_
          rintro e w8 ⟨r, ⟨hr0, hr1⟩, rfl, hs, he⟩
          have C8 := Lib.hid (C7.out.call hs he.apart)
          clear hs he C7
          obtain ⟨m, hm⟩ : ∃ m : Nat, (0 : Int) + r = (m : Int) := ⟨((0 : Int) + r).toNat, by omega⟩
          have hm1 : T ≤ m := by have := HT.out; omega
          have hm2 : m ≤ 1048576 := by omega
          obtain ⟨v1, hv1⟩ : ∃ v, atC zs p inc m = v := ⟨_, rfl⟩
          obtain ⟨v2, hv2⟩ : ∃ v, atC ys q jnc m = v := ⟨_, rfl⟩
          have hsg := (seen_le HG.out HK.out hm2).1 (KT.out m hm1)
          rw [hv1, hv2] at hsg
          have hng : ¬ v2 < v1 := by omega
          have V1 := Lib.hid hv1
          have V2 := Lib.hid hv2
          have T8 := Lib.hid (show Two w8 w3.heap.size a1 n1 cap1 p inc zs (w3.heap.size + 1) a2 n2 cap2 q jnc ys from ⟨C8.out.bf, C8.out.rf, C8.out.bg, C8.out.rg⟩)
          clear hv1 hv2
          go_wp2_with fail
          go_region_held3 (fun u => Two6 w8 w3.heap.size a1 n1 cap1 p inc zs (w3.heap.size + 1) a2 n2 cap2 q jnc ys u)
            (first | with_reducible exact two6_drew T8.out | with_reducible exact two6_call (by assumption) hbx)
            (first
              | (go_at_call 25; ((with_reducible refine (value4 a1 n1 cap1 zs p inc HG.out m m rfl hm2 v1 V1.out _ (two6_of (by assumption)).rx).mono ?_); rintro e w9 ⟨rfl, hbx⟩))
              | (go_at_call 25; ((with_reducible refine (value4 a2 n2 cap2 ys q jnc HK.out m m rfl hm2 v2 V2.out _ (two6_of (by assumption)).ry).mono ?_); rintro e w10 ⟨rfl, hbx⟩)))
          have hT6 : Two6 w8 w3.heap.size a1 n1 cap1 p inc zs (w3.heap.size + 1) a2 n2 cap2 q jnc ys w10 := by assumption
          have C10 := Lib.hid (C8.out.below (two6_below hT6))
          clear hT6
          go_wp2_with fail
          exact ⟨⟨k + 1, by go_num, by omega, C10⟩, by simp [intOf]; omega⟩
        · obtain rfl : k = 60 := by omega
          have HB7 := Lib.hid (HB3.out.trans (C7.out.held.ap.below (Nat.le_refl _) HB3.out.size))
          go_wp2_with fail
          have T7 := Lib.hid (show Two w7 w3.heap.size a1 n1 cap1 p inc zs (w3.heap.size + 1) a2 n2 cap2 q jnc ys from ⟨C7.out.bf, C7.out.rf, C7.out.bg, C7.out.rg⟩)
          have G0 := Lib.hid (two6_drew T7.out)
          refine wp_region_keeps (fun u => Two6 w7 w3.heap.size a1 n1 cap1 p inc zs (w3.heap.size + 1) a2 n2 cap2 q jnc ys u) 16 1 (by kernel_rfl) (by kernel_rfl) G0.out (fun hHeld0 => ?_)
          refine wpAnyK_take (i := 0) (v := ?_) rfl (by kernel_rfl) (fun _ _ _ h => h) (Or.inl ⟨by rfl, ?_⟩) (by assumption) ?_
          rotate_left
          · (intro w hSw; (try dsimp only at hSw); go_simp; try with_reducible rfl)
          try simp only [Act.put, List.getElem_toArray, List.getElem_cons_zero, List.getElem_cons_succ, List.setIfInBounds_toArray, List.set_cons_zero, List.set_cons_succ]
          refine wpAnyK_take (i := 1) (v := ?_) rfl (by kernel_rfl) (fun _ _ _ h => h) (Or.inl ⟨by rfl, ?_⟩) (by assumption) ?_
          rotate_left
          · (intro w hSw; (try dsimp only at hSw); go_simp; try with_reducible rfl)
          try simp only [Act.put, List.getElem_toArray, List.getElem_cons_zero, List.getElem_cons_succ, List.setIfInBounds_toArray, List.set_cons_zero, List.set_cons_succ]
          refine wpAnyK_take (i := 2) (v := ?_) rfl (by kernel_rfl) (fun _ _ _ h => h) (Or.inl ⟨by rfl, ?_⟩) (by assumption) ?_
          rotate_left
          · (intro w hSw; (try dsimp only at hSw); go_simp; try with_reducible rfl)
          try simp only [Act.put, List.getElem_toArray, List.getElem_cons_zero, List.getElem_cons_succ, List.setIfInBounds_toArray, List.set_cons_zero, List.set_cons_succ]
          refine wpAnyK_take (i := 3) (v := undef) rfl (by kernel_rfl) (fun _ _ _ h => h) (Or.inr ⟨by rfl, rfl⟩) (by assumption) ?_
          try simp only [Act.put, List.getElem_toArray, List.getElem_cons_zero, List.getElem_cons_succ, List.setIfInBounds_toArray, List.set_cons_zero, List.set_cons_succ]
          refine wpAnyK_take (i := 4) (v := undef) rfl (by kernel_rfl) (fun _ _ _ h => h) (Or.inr ⟨by rfl, rfl⟩) (by assumption) ?_
          try simp only [Act.put, List.getElem_toArray, List.getElem_cons_zero, List.getElem_cons_succ, List.setIfInBounds_toArray, List.set_cons_zero, List.set_cons_succ]
          refine wpAnyK_take (i := 5) (v := undef) rfl (by kernel_rfl) (fun _ _ _ h => h) (Or.inr ⟨by rfl, rfl⟩) (by assumption) ?_
          try simp only [Act.put, List.getElem_toArray, List.getElem_cons_zero, List.getElem_cons_succ, List.setIfInBounds_toArray, List.set_cons_zero, List.set_cons_succ]
          refine wpAnyK_take (i := 6) (v := undef) rfl (by kernel_rfl) (fun _ _ _ h => h) (Or.inr ⟨by rfl, rfl⟩) (by assumption) ?_
          try simp only [Act.put, List.getElem_toArray, List.getElem_cons_zero, List.getElem_cons_succ, List.setIfInBounds_toArray, List.set_cons_zero, List.set_cons_succ]
          refine wpAnyK_take (i := 7) (v := undef) rfl (by kernel_rfl) (fun _ _ _ h => h) (Or.inr ⟨by rfl, rfl⟩) (by assumption) ?_
          try simp only [Act.put, List.getElem_toArray, List.getElem_cons_zero, List.getElem_cons_succ, List.setIfInBounds_toArray, List.set_cons_zero, List.set_cons_succ]
          refine wpAnyK_take (i := 8) (v := undef) rfl (by kernel_rfl) (fun _ _ _ h => h) (Or.inr ⟨by rfl, rfl⟩) (by assumption) ?_
          try simp only [Act.put, List.getElem_toArray, List.getElem_cons_zero, List.getElem_cons_succ, List.setIfInBounds_toArray, List.set_cons_zero, List.set_cons_succ]
          refine wpAnyK_take (i := 9) (v := undef) rfl (by kernel_rfl) (fun _ _ _ h => h) (Or.inr ⟨by rfl, rfl⟩) (by assumption) ?_
          try simp only [Act.put, List.getElem_toArray, List.getElem_cons_zero, List.getElem_cons_succ, List.setIfInBounds_toArray, List.set_cons_zero, List.set_cons_succ]
          refine wpAnyK_take (i := 10) (v := undef) rfl (by kernel_rfl) (fun _ _ _ h => h) (Or.inr ⟨by rfl, rfl⟩) (by assumption) ?_
          try simp only [Act.put, List.getElem_toArray, List.getElem_cons_zero, List.getElem_cons_succ, List.setIfInBounds_toArray, List.set_cons_zero, List.set_cons_succ]
          refine wpAnyK_take (i := 11) (v := undef) rfl (by kernel_rfl) (fun _ _ _ h => h) (Or.inr ⟨by rfl, rfl⟩) (by assumption) ?_
          try simp only [Act.put, List.getElem_toArray, List.getElem_cons_zero, List.getElem_cons_succ, List.setIfInBounds_toArray, List.set_cons_zero, List.set_cons_succ]
          refine wpAnyK_take (i := 12) (v := ?_) rfl (by kernel_rfl) (fun _ _ _ h => h) (Or.inl ⟨by rfl, ?_⟩) (by assumption) ?_
          rotate_left
          · (intro w hSw; (try dsimp only at hSw); go_simp; try with_reducible rfl)
          try simp only [Act.put, List.getElem_toArray, List.getElem_cons_zero, List.getElem_cons_succ, List.setIfInBounds_toArray, List.set_cons_zero, List.set_cons_succ]
          refine wpAnyK_take (i := 13) (v := ?_) rfl (by kernel_rfl) (fun _ _ _ h => h) (Or.inl ⟨by rfl, ?_⟩) (by assumption) ?_
          rotate_left
          · (intro w hSw; (try dsimp only at hSw); go_simp; try with_reducible rfl)
          try simp only [Act.put, List.getElem_toArray, List.getElem_cons_zero, List.getElem_cons_succ, List.setIfInBounds_toArray, List.set_cons_zero, List.set_cons_succ]
          refine wpAnyK_step (i := 14) rfl (by kernel_rfl) (fun K hK => ?_)
          go_simp
          with_reducible refine (awake4 _).mono ?_
          rintro e w8 ⟨rfl, hb⟩
          have G1 := Lib.hid (two6_call G0.out hb)
          clear hb
          refine hK.out _ _ G1.out (fun hHeld1 => ?_)
          clear hK K hHeld0
          try simp only [Act.put, List.getElem_toArray, List.getElem_cons_zero, List.getElem_cons_succ, List.setIfInBounds_toArray, List.set_cons_zero, List.set_cons_succ]
          refine wpAnyK_take (i := 15) (v := ?_) rfl (by kernel_rfl) (fun _ _ _ h => h) (Or.inl ⟨by rfl, ?_⟩) (by assumption) ?_
          rotate_left
          · (intro w hSw; (try dsimp only at hSw); go_simp; try with_reducible rfl)
          try simp only [Act.put, List.getElem_toArray, List.getElem_cons_zero, List.getElem_cons_succ, List.setIfInBounds_toArray, List.set_cons_zero, List.set_cons_succ]
          refine wpAnyK_done (by kernel_rfl) ?_
          simp only [List.drop_succ_cons, List.drop_zero]
          clear hHeld1
          go_wp2_with fail
          go_ret
          exact ⟨rfl, HB7.out.trans ((two6_below G1.out).mono HB7.out.size)⟩
    · have KM := Lib.hid (kp (by omega)).1
      have tz : (t == 0) = false := by simpa using h0
      have ht1 : ¬ t < 0 := by omega
      clear k1 k2 kt k0 kp hT
      go_wp2_with fail
      clear c0 c1 c2 f0 f1 f2 d0 d1 d2 g0 g1 g2
      refine (atMost_at a1 n1 cap1 zs p inc HG.out a2 n2 cap2 ys q jnc HK.out false KM.out _ C5.out.rf C5.out.rg).mono ?_
      rintro e w6 ⟨rfl, hb⟩
      have C6 := Lib.hid (C5.out.below hb)
      clear hb C5
      by_cases hbig : 100000 < t
      · go_wp2_with fail
        refine (awake4 _).mono ?_
        rintro e w7 ⟨rfl, hb⟩
        have HB7 := Lib.hid ((HB3.out.trans (C6.out.held.ap.below (Nat.le_refl _) HB3.out.size)).trans (hb.mono (HB3.out.trans (C6.out.held.ap.below (Nat.le_refl _) HB3.out.size)).size))
        clear hb
        go_wp2_with fail
        go_ret
        exact ⟨rfl, HB7.out⟩
      go_wp2_with fail
      go_loopw [11] (fun s11 wx => ∃ k : Nat, s11 = .int .i64 k ∧ k ≤ 60 ∧ Hid (Ce w3 W.heap.size ra rn rc w3.heap.size a1 n1 cap1 p inc zs (w3.heap.size + 1) a2 n2 cap2 q jnc ys wx)) (fun s11 _ => 60 - (intOf s11).toNat)
      case atStart => exact ⟨0, by go_num, by omega, C6⟩
      case round =>
        clear C6
        obtain ⟨k, rfl, hk, C7⟩ := hrel
        obtain ⟨w7, rfl⟩ : ∃ u : World, u = wr := ⟨_, rfl⟩
        by_cases hk6 : k < 60
        · have hk7 : (k : Int) < 60 := by omega
          go_wp2_with fail
          refine (n_any 500 (by omega) (by omega) W.heap.size ra rn rc _ (C7.out.held.at HS3.out)).mono ?_
          rintro e w8 ⟨r, ⟨hr0, hr1⟩, rfl, hs, he⟩
          have C8 := Lib.hid (C7.out.call hs he.apart)
          clear hs he C7
          obtain ⟨m, hm⟩ : ∃ m : Nat, t + r = (m : Int) := ⟨(t + r).toNat, by omega⟩
          have hm1 : T ≤ m := by have := HT.out; omega
          have hm2 : m ≤ 1048576 := by omega
          obtain ⟨v1, hv1⟩ : ∃ v, atC zs p inc m = v := ⟨_, rfl⟩
          obtain ⟨v2, hv2⟩ : ∃ v, atC ys q jnc m = v := ⟨_, rfl⟩
          have hsg := (seen_le HG.out HK.out hm2).1 (KT.out m hm1)
          rw [hv1, hv2] at hsg
          have hng : ¬ v2 < v1 := by omega
          have V1 := Lib.hid hv1
          have V2 := Lib.hid hv2
          have T8 := Lib.hid (show Two w8 w3.heap.size a1 n1 cap1 p inc zs (w3.heap.size + 1) a2 n2 cap2 q jnc ys from ⟨C8.out.bf, C8.out.rf, C8.out.bg, C8.out.rg⟩)
          clear hv1 hv2
          go_wp2_with fail
          go_region_held3 (fun u => Two6 w8 w3.heap.size a1 n1 cap1 p inc zs (w3.heap.size + 1) a2 n2 cap2 q jnc ys u)
            (first | with_reducible exact two6_drew T8.out | with_reducible exact two6_call (by assumption) hbx)
            (first
              | (go_at_call 25; ((with_reducible refine (value4 a1 n1 cap1 zs p inc HG.out m m rfl hm2 v1 V1.out _ (two6_of (by assumption)).rx).mono ?_); rintro e w9 ⟨rfl, hbx⟩))
              | (go_at_call 25; ((with_reducible refine (value4 a2 n2 cap2 ys q jnc HK.out m m rfl hm2 v2 V2.out _ (two6_of (by assumption)).ry).mono ?_); rintro e w10 ⟨rfl, hbx⟩)))
          have hT6 : Two6 w8 w3.heap.size a1 n1 cap1 p inc zs (w3.heap.size + 1) a2 n2 cap2 q jnc ys w10 := by assumption
          have C10 := Lib.hid (C8.out.below (two6_below hT6))
          clear hT6
          go_wp2_with fail
          exact ⟨⟨k + 1, by go_num, by omega, C10⟩, by simp [intOf]; omega⟩
        · obtain rfl : k = 60 := by omega
          have HB7 := Lib.hid (HB3.out.trans (C7.out.held.ap.below (Nat.le_refl _) HB3.out.size))
          go_wp2_with fail
          obtain ⟨u1, hu1⟩ : ∃ u : Nat, t - 1 = (u : Int) := ⟨(t - 1).toNat, by omega⟩
          have hu2 : u1 ≤ 1048576 := by omega
          have hu3 : u1 = T - 1 := by have := HT.out; omega
          obtain ⟨v1, hv1⟩ : ∃ v, atC zs p inc u1 = v := ⟨_, rfl⟩
          obtain ⟨v2, hv2⟩ : ∃ v, atC ys q jnc u1 = v := ⟨_, rfl⟩
          have hgt : v2 < v1 := by
            have h1 := (KP.out (by have := HT.out; omega)).2
            rw [← hu3] at h1
            have h2 := seen_le HG.out HK.out hu2
            rw [hv1, hv2] at h2
            omega
          have qw : IntKind.i64.wrap (u1 : Int) = (u1 : Int) := IntWalk.i64_in _ ⟨by omega, by omega⟩
          have V1 := Lib.hid hv1
          have V2 := Lib.hid hv2
          clear hv1 hv2 hu3
          have T7 := Lib.hid (show Two w7 w3.heap.size a1 n1 cap1 p inc zs (w3.heap.size + 1) a2 n2 cap2 q jnc ys from ⟨C7.out.bf, C7.out.rf, C7.out.bg, C7.out.rg⟩)
          have G0 := Lib.hid (two6_drew T7.out)
          refine wp_region_keeps (fun u => Two6 w7 w3.heap.size a1 n1 cap1 p inc zs (w3.heap.size + 1) a2 n2 cap2 q jnc ys u) 16 1 (by kernel_rfl) (by kernel_rfl) G0.out (fun hHeld0 => ?_)
          refine wpAnyK_take (i := 0) (v := ?_) rfl (by kernel_rfl) (fun _ _ _ h => h) (Or.inl ⟨by rfl, ?_⟩) (by assumption) ?_
          rotate_left
          · (intro w hSw; (try dsimp only at hSw); go_simp; try with_reducible rfl)
          try simp only [Act.put, List.getElem_toArray, List.getElem_cons_zero, List.getElem_cons_succ, List.setIfInBounds_toArray, List.set_cons_zero, List.set_cons_succ]
          refine wpAnyK_take (i := 1) (v := ?_) rfl (by kernel_rfl) (fun _ _ _ h => h) (Or.inl ⟨by rfl, ?_⟩) (by assumption) ?_
          rotate_left
          · (intro w hSw; (try dsimp only at hSw); go_simp; try with_reducible rfl)
          try simp only [Act.put, List.getElem_toArray, List.getElem_cons_zero, List.getElem_cons_succ, List.setIfInBounds_toArray, List.set_cons_zero, List.set_cons_succ]
          refine wpAnyK_take (i := 2) (v := ?_) rfl (by kernel_rfl) (fun _ _ _ h => h) (Or.inl ⟨by rfl, ?_⟩) (by assumption) ?_
          rotate_left
          · (intro w hSw; (try dsimp only at hSw); go_simp; try with_reducible rfl)
          try simp only [Act.put, List.getElem_toArray, List.getElem_cons_zero, List.getElem_cons_succ, List.setIfInBounds_toArray, List.set_cons_zero, List.set_cons_succ]
          refine wpAnyK_take (i := 3) (v := ?_) rfl (by kernel_rfl) (fun _ _ _ h => h) (Or.inl ⟨by rfl, ?_⟩) (by assumption) ?_
          rotate_left
          · (intro w hSw; (try dsimp only at hSw); go_simp; try with_reducible rfl)
          try simp only [Act.put, List.getElem_toArray, List.getElem_cons_zero, List.getElem_cons_succ, List.setIfInBounds_toArray, List.set_cons_zero, List.set_cons_succ]
          refine wpAnyK_take (i := 4) (v := ?_) rfl (by kernel_rfl) (fun _ _ _ h => h) (Or.inl ⟨by rfl, ?_⟩) (by assumption) ?_
          rotate_left
          · (intro w hSw; (try dsimp only at hSw); go_simp; try with_reducible rfl)
          try simp only [Act.put, List.getElem_toArray, List.getElem_cons_zero, List.getElem_cons_succ, List.setIfInBounds_toArray, List.set_cons_zero, List.set_cons_succ]
          refine wpAnyK_take (i := 5) (v := ?_) rfl (by kernel_rfl) (fun _ _ _ h => h) (Or.inl ⟨by rfl, ?_⟩) (by assumption) ?_
          rotate_left
          · (intro w hSw; (try dsimp only at hSw); go_simp; try with_reducible rfl)
          try simp only [Act.put, List.getElem_toArray, List.getElem_cons_zero, List.getElem_cons_succ, List.setIfInBounds_toArray, List.set_cons_zero, List.set_cons_succ]
          refine wpAnyK_take (i := 7) (v := ?_) rfl (by kernel_rfl) (fun _ _ _ h => h) (Or.inl ⟨by rfl, ?_⟩) (by assumption) ?_
          rotate_left
          · (intro w hSw; (try dsimp only at hSw); go_simp; try with_reducible rfl)
          try simp only [Act.put, List.getElem_toArray, List.getElem_cons_zero, List.getElem_cons_succ, List.setIfInBounds_toArray, List.set_cons_zero, List.set_cons_succ]
          refine wpAnyK_take (i := 8) (v := ?_) rfl (by kernel_rfl) (fun _ _ _ h => h) (Or.inl ⟨by rfl, ?_⟩) (by assumption) ?_
          rotate_left
          · (intro w hSw; (try dsimp only at hSw); go_simp; try with_reducible rfl)
          try simp only [Act.put, List.getElem_toArray, List.getElem_cons_zero, List.getElem_cons_succ, List.setIfInBounds_toArray, List.set_cons_zero, List.set_cons_succ]
          refine wpAnyK_take (i := 9) (v := ?_) rfl (by kernel_rfl) (fun _ _ _ h => h) (Or.inl ⟨by rfl, ?_⟩) (by assumption) ?_
          rotate_left
          · (intro w hSw; (try dsimp only at hSw); go_simp; try with_reducible rfl)
          try simp only [Act.put, List.getElem_toArray, List.getElem_cons_zero, List.getElem_cons_succ, List.setIfInBounds_toArray, List.set_cons_zero, List.set_cons_succ]
          refine wpAnyK_step (i := 6) rfl (by kernel_rfl) (fun K hK => ?_)
          go_simp
          with_reducible refine (value4 a1 n1 cap1 zs p inc HG.out u1 u1 rfl hu2 v1 V1.out _ (two6_of G0.out).rx).mono ?_
          rintro e w8 ⟨rfl, hb⟩
          have G1 := Lib.hid (two6_call G0.out hb)
          clear hb
          refine hK.out _ _ G1.out (fun hHeld1 => ?_)
          clear hK K hHeld0
          try simp only [Act.put, List.getElem_toArray, List.getElem_cons_zero, List.getElem_cons_succ, List.setIfInBounds_toArray, List.set_cons_zero, List.set_cons_succ]
          refine wpAnyK_step (i := 10) rfl (by kernel_rfl) (fun K hK => ?_)
          go_simp
          with_reducible refine (value4 a2 n2 cap2 ys q jnc HK.out u1 u1 rfl hu2 v2 V2.out _ (two6_of G1.out).ry).mono ?_
          rintro e w9 ⟨rfl, hb⟩
          have G2 := Lib.hid (two6_call G1.out hb)
          clear hb
          refine hK.out _ _ G2.out (fun hHeld2 => ?_)
          clear hK K hHeld1
          try simp only [Act.put, List.getElem_toArray, List.getElem_cons_zero, List.getElem_cons_succ, List.setIfInBounds_toArray, List.set_cons_zero, List.set_cons_succ]
          refine wpAnyK_take (i := 11) (v := ?_) rfl (by kernel_rfl) (fun _ _ _ h => h) (Or.inl ⟨by rfl, ?_⟩) (by assumption) ?_
          rotate_left
          · (intro w hSw; (try dsimp only at hSw); go_simp; try with_reducible rfl)
          try simp only [Act.put, List.getElem_toArray, List.getElem_cons_zero, List.getElem_cons_succ, List.setIfInBounds_toArray, List.set_cons_zero, List.set_cons_succ]
          refine wpAnyK_take (i := 12) (v := ?_) rfl (by kernel_rfl) (fun _ _ _ h => h) (Or.inl ⟨by rfl, ?_⟩) (by assumption) ?_
          rotate_left
          · (intro w hSw; (try dsimp only at hSw); go_simp; try with_reducible rfl)
          try simp only [Act.put, List.getElem_toArray, List.getElem_cons_zero, List.getElem_cons_succ, List.setIfInBounds_toArray, List.set_cons_zero, List.set_cons_succ]
          refine wpAnyK_take (i := 13) (v := ?_) rfl (by kernel_rfl) (fun _ _ _ h => h) (Or.inl ⟨by rfl, ?_⟩) (by assumption) ?_
          rotate_left
          · (intro w hSw; (try dsimp only at hSw); go_simp; try with_reducible rfl)
          try simp only [Act.put, List.getElem_toArray, List.getElem_cons_zero, List.getElem_cons_succ, List.setIfInBounds_toArray, List.set_cons_zero, List.set_cons_succ]
          refine wpAnyK_step (i := 14) rfl (by kernel_rfl) (fun K hK => ?_)
          go_simp
          with_reducible refine (awake4 _).mono ?_
          rintro e w10 ⟨rfl, hb⟩
          have G3 := Lib.hid (two6_call G2.out hb)
          clear hb
          refine hK.out _ _ G3.out (fun hHeld3 => ?_)
          clear hK K hHeld2
          try simp only [Act.put, List.getElem_toArray, List.getElem_cons_zero, List.getElem_cons_succ, List.setIfInBounds_toArray, List.set_cons_zero, List.set_cons_succ]
          refine wpAnyK_take (i := 15) (v := ?_) rfl (by kernel_rfl) (fun _ _ _ h => h) (Or.inl ⟨by rfl, ?_⟩) (by assumption) ?_
          rotate_left
          · (intro w hSw; (try dsimp only at hSw); go_simp; try with_reducible rfl)
          try simp only [Act.put, List.getElem_toArray, List.getElem_cons_zero, List.getElem_cons_succ, List.setIfInBounds_toArray, List.set_cons_zero, List.set_cons_succ]
          refine wpAnyK_done (by kernel_rfl) ?_
          simp only [List.drop_succ_cons, List.drop_zero]
          clear hHeld3
          go_wp2_with fail
          go_ret
          exact ⟨rfl, HB7.out.trans ((two6_below G3.out).mono HB7.out.size)⟩
end Go.Proofs.Ytgdkjmmlgnmidaa
