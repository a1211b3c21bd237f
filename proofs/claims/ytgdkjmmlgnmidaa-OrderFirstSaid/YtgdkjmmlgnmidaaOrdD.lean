/- Contracts of package order: Exceeds, AtMost, Settles, Meets. By the verifier's side. -/
import Derived.Test.YtgdkjmmlgnmidaaOrdC
namespace Go.Proofs.Ytgdkjmmlgnmidaa
open Go.RowKit
set_option linter.unusedSimpArgs false

/-- A tick, whether there is one, and an error code. -/
def Tick3 (t : Int) (ok : Bool) (e : Int) (w : World) (en : Ending) (w' : World) : Prop := en = .returned (.tuple #[.int .i64 t, .bool ok, .int .i64 e]) ∧ Below w.heap.size w w'

section
variable (a : Option Addr) (n cap : Nat) (zs : List Int) (p inc : Int) (hp : In64 p) (hi : In64 inc) (a2 : Option Addr) (n2 cap2 : Nat) (ys : List Int) (q jnc : Int) (hq : In64 q) (hj : In64 jnc)
    (hv : okC zs p inc = false ∨ okC ys q jnc = false) (w : World) (h : RowZ w a n cap zs) (h2 : RowZ w a2 n2 cap2 ys)
theorem two_boxes (w : World) (o o2 : Obj) : Below w.heap.size w ((w.alloc o).alloc o2) := ((Below.refl _ _).alloc (Nat.le_refl _) _).alloc (by simp) _

include hp hi hq hj hv h h2
set_option maxHeartbeats 1600000 in
theorem exceeds_bad : Calls Try.prog 16 #[curV a n cap p inc, curV a2 n2 cap2 q jnc] w (Tick3 0 false 1 w) := by
  have hB := two_boxes w (.cells #[.slice a n cap, .int .i64 p, .int .i64 inc] 24) (.cells #[.slice a2 n2 cap2, .int .i64 q, .int .i64 jnc] 24)
  have HBl := Lib.hid hB
  have H := Lib.hid (h.under hB)
  have H2 := Lib.hid (h2.under hB)
  have HV := Lib.hid hv
  clear h h2 hB hv
  go_enter Try.func16, Try.ntmps16
  go_wp2_with fail
  refine (sub_bad a n cap zs p inc hp hi a2 n2 cap2 ys q jnc hq hj HV.out _ H.out H2.out).mono ?_
  rintro e w1 ⟨rfl, hb⟩
  have HB1 := Lib.hid (HBl.out.trans (hb.mono HBl.out.size))
  clear hb
  go_wp2_with fail
  exact bodyPost_ret (v := .tuple #[.int .i64 0, .bool false, .int .i64 1]) (by simp [results, Try.results16, go_sem]) rfl ⟨rfl, HB1.out.alloc HB1.out.size _⟩

set_option maxHeartbeats 1600000 in
theorem settles_bad : Calls Try.prog 20 #[curV a n cap p inc, curV a2 n2 cap2 q jnc] w (Tick3 0 false 1 w) := by
  have hB := two_boxes w (.cells #[.slice a n cap, .int .i64 p, .int .i64 inc] 24) (.cells #[.slice a2 n2 cap2, .int .i64 q, .int .i64 jnc] 24)
  have HBl := Lib.hid hB
  have H := Lib.hid (h.under hB)
  have H2 := Lib.hid (h2.under hB)
  have HV := Lib.hid hv
  clear h h2 hB hv
  go_enter Try.func20, Try.ntmps20
  go_wp2_with fail
  refine (sub_bad a n cap zs p inc hp hi a2 n2 cap2 ys q jnc hq hj HV.out _ H.out H2.out).mono ?_
  rintro e w1 ⟨rfl, hb⟩
  have HB1 := Lib.hid (HBl.out.trans (hb.mono HBl.out.size))
  clear hb
  go_wp2_with fail
  exact bodyPost_ret (v := .tuple #[.int .i64 0, .bool false, .int .i64 1]) (by simp [results, Try.results20, go_sem]) rfl ⟨rfl, HB1.out.alloc HB1.out.size _⟩

set_option maxHeartbeats 1600000 in
theorem meets_bad : Calls Try.prog 22 #[curV a n cap p inc, curV a2 n2 cap2 q jnc] w (Tick3 0 false 1 w) := by
  have hB := two_boxes w (.cells #[.slice a n cap, .int .i64 p, .int .i64 inc] 24) (.cells #[.slice a2 n2 cap2, .int .i64 q, .int .i64 jnc] 24)
  have HBl := Lib.hid hB
  have H := Lib.hid (h.under hB)
  have H2 := Lib.hid (h2.under hB)
  have HV := Lib.hid hv
  clear h h2 hB hv
  go_enter Try.func22, Try.ntmps22
  go_wp2_with fail
  refine (sub_bad a n cap zs p inc hp hi a2 n2 cap2 ys q jnc hq hj HV.out _ H.out H2.out).mono ?_
  rintro e w1 ⟨rfl, hb⟩
  have HB1 := Lib.hid (HBl.out.trans (hb.mono HBl.out.size))
  clear hb
  go_wp2_with fail
  exact bodyPost_ret (v := .tuple #[.int .i64 0, .bool false, .int .i64 1]) (by simp [results, Try.results22, go_sem]) rfl ⟨rfl, HB1.out.alloc HB1.out.size _⟩
end

section
variable (a : Option Addr) (n cap : Nat) (zs : List Int) (p : Nat) (inc : Int) (g : Good zs p inc) (a2 : Option Addr) (n2 cap2 : Nat) (ys : List Int) (q : Nat) (jnc : Int) (k : Good ys q jnc) (t : Int) (ok : Bool)
    (w : World) (h : RowZ w a n cap zs) (h2 : RowZ w a2 n2 cap2 ys)

include g k h h2
set_option maxHeartbeats 3200000 in
theorem exceeds_ok (hE : ExcP (dC zs p inc ys q jnc) t ok) : Calls Try.prog 16 #[curV a n cap p inc, curV a2 n2 cap2 q jnc] w (Tick3 t ok 0 w) := by
  have hB := two_boxes w (.cells #[.slice a n cap, .int .i64 p, .int .i64 inc] 24) (.cells #[.slice a2 n2 cap2, .int .i64 q, .int .i64 jnc] 24)
  have HBl := Lib.hid hB
  obtain ⟨S, hS⟩ : ∃ S, max (n - p) (n2 - q) = S := ⟨_, rfl⟩
  obtain ⟨L, hL⟩ : ∃ L, p / Nat.gcd p q * q = L := ⟨_, rfl⟩
  obtain ⟨c, hc⟩ : ∃ c, growC zs p inc ys q jnc L = c := ⟨_, rfl⟩
  have hD : DifOk w a n cap zs p inc a2 n2 cap2 ys q jnc S L := ⟨g, k, h, h2, hS, hL⟩
  have H := Lib.hid (hD.under hB)
  have hPer := hD.per
  rw [hc] at hPer
  have HP := Lib.hid hPer
  obtain ⟨hS1, hL1, hL2⟩ := hD.small
  have HE := Lib.hid hE
  have HC := Lib.hid hc
  obtain ⟨M, hM⟩ : ∃ M, S + L = M := ⟨_, rfl⟩
  have qM : (S : Int) + (L : Int) = (M : Int) := by omega
  have hMb : M ≤ 20000 := by omega
  have HMM := Lib.hid hM
  clear h h2 hB hS hL hc hD hPer hE g k hM
  go_enter Try.func16, Try.ntmps16
  go_wp2_with fail
  refine (sub_ok a n cap zs p inc H.out.g a2 n2 cap2 ys q jnc H.out.k S L c H.out.s H.out.l HC.out _ H.out.r H.out.r2).mono ?_
  rintro e w1 ⟨rfl, hb⟩
  have HB2 := Lib.hid ((HBl.out.trans (hb.mono HBl.out.size)).alloc (HBl.out.trans (hb.mono HBl.out.size)).size (.cells #[.slice a n cap, .int .i64 p, .int .i64 inc, .slice a2 n2 cap2, .int .i64 q, .int .i64 jnc, .int .i64 S, .int .i64 L, .int .i64 c] 52))
  have H2 := Lib.hid ((H.out.under hb).under (box_below w1 (.cells #[.slice a n cap, .int .i64 p, .int .i64 inc, .slice a2 n2 cap2, .int .i64 q, .int .i64 jnc, .int .i64 S, .int .i64 L, .int .i64 c] 52)))
  have KE := Lib.hid (dif_new w1 (.slice a n cap) (.int .i64 p) (.int .i64 inc) (.slice a2 n2 cap2) (.int .i64 q) (.int .i64 jnc) (.int .i64 S) (.int .i64 L) (.int .i64 c) 52)
  clear hb H
  go_wp2_with fail
  generalize w1.alloc (.cells #[.slice a n cap, .int .i64 p, .int .i64 inc, .slice a2 n2 cap2, .int .i64 q, .int .i64 jnc, .int .i64 S, .int .i64 L, .int .i64 c] 52) = w2 at HB2 H2 KE ⊢
  go_loopw [24] (fun s24 wx => ∃ j : Nat, s24 = .int .i64 j ∧ j ≤ M ∧ Hid (∀ u, u < j → dC zs p inc ys q jnc u ≤ 0) ∧ Hid (Below w2.heap.size w2 wx)) (fun s24 _ => M - (intOf s24).toNat)
  case atStart => exact ⟨0, by go_num, by omega, fun u hu => absurd hu (Nat.not_lt_zero _), Below.refl _ _⟩
  case round =>
    obtain ⟨j, rfl, hj, HU, HX⟩ := hrel
    obtain ⟨w3, rfl⟩ : ∃ u : World, u = wr := ⟨_, rfl⟩
    obtain ⟨⟨c0, c1, c2, f0, f1, f2⟩, c3, c4, c5, c6, c7, c8, f3, f4, f5, f6, f7, f8⟩ := KE.out.below HX.out
    by_cases hlt : j < M
    · have hlt' : (j : Int) < (M : Int) := by omega
      obtain ⟨v, hv⟩ : ∃ v, atC zs p inc j - atC ys q jnc j = v := ⟨_, rfl⟩
      have hsg := (H2.out.sign (t := j) (by omega)).1
      rw [hv] at hsg
      have HV := Lib.hid hv
      have HS := Lib.hid hsg
      clear hv hsg
      go_wp2_with fail
      clear c0 c1 c2 c3 c4 c5 c6 c7 c8 f0 f1 f2 f3 f4 f5 f6 f7 f8
      refine (diff_at a n cap zs p inc a2 n2 cap2 ys q jnc S L c _ (H2.out.under HX.out) j j rfl (by omega) v HV.out).mono ?_
      rintro e w4 ⟨rfl, hb⟩
      have HX2 := Lib.hid (HX.out.trans (hb.mono HX.out.size))
      clear hb
      by_cases hpos : 0 < v
      · go_wp2_with fail
        obtain ⟨rfl, rfl⟩ := HE.out.unique (.inl ⟨rfl, j, rfl, HS.out.2 hpos, HU.out⟩)
        exact bodyPost_ret (v := .tuple #[.int .i64 j, .bool true, .int .i64 0]) (by simp [results, Try.results16, go_sem]) rfl ⟨rfl, HB2.out.trans (HX2.out.mono HB2.out.size)⟩
      · have hpos' : v ≤ 0 := by omega
        go_wp2_with fail
        exact ⟨⟨j + 1, by go_num, by omega, fun u hu => by
          by_cases he : u = j
          · subst he; have := HS.out; omega
          · exact HU.out u (by omega), HX2⟩, by simp [intOf]; omega⟩
    · obtain rfl : j = M := by omega
      have hlt' : ¬ (j : Int) < (j : Int) := by omega
      have hall : ∀ u, u < S + L → dC zs p inc ys q jnc u ≤ 0 := fun u hu => HU.out u (by have := HMM.out; omega)
      have HA := Lib.hid hall
      clear hall
      by_cases hc0 : c ≤ 0
      · go_wp2_with fail
        obtain ⟨rfl, rfl⟩ := HE.out.unique (exc_none HP.out hL1 hc0 HA.out)
        exact bodyPost_ret (v := .tuple #[.int .i64 0, .bool false, .int .i64 0]) (by simp [results, Try.results16, go_sem]) rfl ⟨rfl, HB2.out.trans (HX.out.mono HB2.out.size)⟩
      · have hc1 : 0 < c := by omega
        go_wp2_with fail
        refine (first_any a n cap zs p inc a2 n2 cap2 ys q jnc S L c _ (H2.out.under HX.out) HC.out hc1 HA.out).mono ?_
        rintro e w4 ⟨x, hx1, hx2, rfl, hb⟩
        obtain ⟨rfl, rfl⟩ := HE.out.unique (exc_far HP.out hL1 hc1 HA.out x hx1 hx2)
        have HX2 := Lib.hid (HX.out.trans (hb.mono HX.out.size))
        clear hb hx1 hx2
        go_wp2_with fail
        exact bodyPost_ret (v := .tuple #[.int .i64 t, .bool true, .int .i64 0]) (by simp [results, Try.results16, go_sem]) rfl ⟨rfl, HB2.out.trans (HX2.out.mono HB2.out.size)⟩

set_option maxHeartbeats 1600000 in
theorem atMost_ok (hE : ExcP (dC zs p inc ys q jnc) t ok) : Calls Try.prog 18 #[curV a n cap p inc, curV a2 n2 cap2 q jnc] w (Says (.bool (!ok)) w) := by
  have hB := two_boxes w (.cells #[.slice a n cap, .int .i64 p, .int .i64 inc] 24) (.cells #[.slice a2 n2 cap2, .int .i64 q, .int .i64 jnc] 24)
  have HBl := Lib.hid hB
  have H := Lib.hid (h.under hB)
  have H2 := Lib.hid (h2.under hB)
  have G := Lib.hid g
  have K := Lib.hid k
  have HE := Lib.hid hE
  clear h h2 hB hE g k
  go_enter Try.func18, Try.ntmps18
  go_wp2_with fail
  refine (exceeds_ok a n cap zs p inc G.out a2 n2 cap2 ys q jnc K.out t ok _ H.out H2.out HE.out).mono ?_
  rintro e w1 ⟨rfl, hb⟩
  have HB1 := Lib.hid (HBl.out.trans (hb.mono HBl.out.size))
  clear hb
  cases ok with
  | true =>
    go_wp2_with fail
    go_ret
    exact ⟨rfl, HB1.out⟩
  | false =>
    go_wp2_with fail
    go_ret
    exact ⟨rfl, HB1.out⟩

set_option maxHeartbeats 3200000 in
theorem settles_ok (hE : SetP (dC zs p inc ys q jnc) t ok) : Calls Try.prog 20 #[curV a n cap p inc, curV a2 n2 cap2 q jnc] w (Tick3 t ok 0 w) := by
  have hB := two_boxes w (.cells #[.slice a n cap, .int .i64 p, .int .i64 inc] 24) (.cells #[.slice a2 n2 cap2, .int .i64 q, .int .i64 jnc] 24)
  have HBl := Lib.hid hB
  obtain ⟨S, hS⟩ : ∃ S, max (n - p) (n2 - q) = S := ⟨_, rfl⟩
  obtain ⟨L, hL⟩ : ∃ L, p / Nat.gcd p q * q = L := ⟨_, rfl⟩
  obtain ⟨c, hc⟩ : ∃ c, growC zs p inc ys q jnc L = c := ⟨_, rfl⟩
  have hD : DifOk w a n cap zs p inc a2 n2 cap2 ys q jnc S L := ⟨g, k, h, h2, hS, hL⟩
  have H := Lib.hid (hD.under hB)
  have hPer := hD.per
  rw [hc] at hPer
  have HP := Lib.hid hPer
  obtain ⟨hS1, hL1, hL2⟩ := hD.small
  have hEX := hD.exact
  rw [hc] at hEX
  have HEX := Lib.hid hEX
  have hne := growC_ne (L := L) g k
  rw [hc] at hne
  have HNE := Lib.hid hne
  have hcb : -(14400 * 1073741824) ≤ c := by
    by_cases h0 : c = 0
    · omega
    · obtain ⟨l1, e1⟩ : ∃ l, L / p = l := ⟨_, rfl⟩
      obtain ⟨l2, e2⟩ : ∃ l, L / q = l := ⟨_, rfl⟩
      have h3 : l2 ≤ L := by rw [← e2]; exact Nat.div_le_self _ _
      have h5 : (l2 : Int) * jnc ≤ 14400 * 1073741824 := Int.mul_le_mul (by omega) k.i1 k.i0 (by omega)
      have h6 : 0 ≤ (l1 : Int) * inc := Int.mul_nonneg (by omega) g.i0
      have h4 := growC_fin (p := p) (q := q) (inc := inc) (jnc := jnc) (hne h0).1 (hne h0).2 (L := L)
      rw [e1, e2, hc] at h4
      omega
  have HE := Lib.hid hE
  have HC := Lib.hid hc
  clear h h2 hB hS hL hc hD hPer hE g k hEX hne
  go_enter Try.func20, Try.ntmps20
  go_wp2_with fail
  refine (sub_ok a n cap zs p inc H.out.g a2 n2 cap2 ys q jnc H.out.k S L c H.out.s H.out.l HC.out _ H.out.r H.out.r2).mono ?_
  rintro e w1 ⟨rfl, hb⟩
  have HB2 := Lib.hid ((HBl.out.trans (hb.mono HBl.out.size)).alloc (HBl.out.trans (hb.mono HBl.out.size)).size (.cells #[.slice a n cap, .int .i64 p, .int .i64 inc, .slice a2 n2 cap2, .int .i64 q, .int .i64 jnc, .int .i64 S, .int .i64 L, .int .i64 c] 52))
  have H2 := Lib.hid ((H.out.under hb).under (box_below w1 (.cells #[.slice a n cap, .int .i64 p, .int .i64 inc, .slice a2 n2 cap2, .int .i64 q, .int .i64 jnc, .int .i64 S, .int .i64 L, .int .i64 c] 52)))
  have KE := Lib.hid (dif_new w1 (.slice a n cap) (.int .i64 p) (.int .i64 inc) (.slice a2 n2 cap2) (.int .i64 q) (.int .i64 jnc) (.int .i64 S) (.int .i64 L) (.int .i64 c) 52)
  clear hb H
  by_cases hc0 : 0 < c
  · go_wp2_with fail
    obtain ⟨rfl, rfl⟩ := HE.out.unique (set_up HP.out hL1 hc0)
    exact bodyPost_ret (v := .tuple #[.int .i64 0, .bool false, .int .i64 0]) (by simp [results, Try.results20, go_sem]) rfl ⟨rfl, HB2.out⟩
  · have hc1 : c ≤ 0 := by omega
    go_wp2_with fail
    refine (settledBefore_any 39 (fun v => decide (0 < v)) (enters_of Try.func39 (by kernel_rfl) rfl) (fun v b w hb => settles1_any v b w hb) a n cap zs p inc a2 n2 cap2 ys q jnc S L c _ H2.out).mono ?_
    rintro e w3 ⟨T0, hT0, hT1, hT2, rfl, hb⟩
    have hI0 : SetI (dC zs p inc ys q jnc) S L 0 T0 := SetI.start (fun u hu ht => by
        have h1 := hT1 u hu ht
        have h2 := (H2.out.sign (t := u) (by omega)).1
        rw [h2]; simpa using h1) (hT2.imp id fun h3 => by
        rw [(H2.out.sign (t := T0 - 1) (by omega)).1]; simpa using h3)
    have HI0 := Lib.hid hI0
    generalize hw2 : w1.alloc (.cells #[.slice a n cap, .int .i64 p, .int .i64 inc, .slice a2 n2 cap2, .int .i64 q, .int .i64 jnc, .int .i64 S, .int .i64 L, .int .i64 c] 52) = w2 at HB2 H2 KE hb
    clear hw2
    have H3 := Lib.hid (H2.out.under hb)
    have KE3 := Lib.hid (KE.out.below hb)
    have HB3 := Lib.hid (HB2.out.trans (hb.mono HB2.out.size))
    obtain ⟨⟨c0, c1, c2, f0, f1, f2⟩, c3, c4, c5, c6, c7, c8, f3, f4, f5, f6, f7, f8⟩ := KE3.out
    clear hb hT1 hT2 hI0 H2 KE HB2
    go_wp2_with fail
    clear c0 c1 c2 c3 c4 c5 c6 c7 c8 f0 f1 f2 f3 f4 f5 f6 f7 f8
    go_loopw [9, 30] (fun s9 s30 wx => ∃ (r T : Nat), s30 = .int .i64 r ∧ s9 = .int .i64 T ∧ r ≤ L ∧ T ≤ 400000000000000000 ∧ Hid (SetI (dC zs p inc ys q jnc) S L r T) ∧ Hid (Below w3.heap.size w3 wx)) (fun _ s30 _ => L - (intOf s30).toNat)
    case atStart => exact ⟨0, T0, by go_num, rfl, by omega, by omega, HI0, Below.refl _ _⟩
    case round =>
      obtain ⟨r, T, rfl, rfl, hr, hT, HI, HX⟩ := hrel
      obtain ⟨w4, rfl⟩ : ∃ u : World, u = wr := ⟨_, rfl⟩
      obtain ⟨⟨c0, c1, c2, f0, f1, f2⟩, c3, c4, c5, c6, c7, c8, f3, f4, f5, f6, f7, f8⟩ := KE3.out.below HX.out
      by_cases hlt : r < L
      · have hlt' : (r : Int) < (L : Int) := by omega
        obtain ⟨j, hj⟩ : ∃ j, S + r = j := ⟨_, rfl⟩
        have qj : (S : Int) + (r : Int) = (j : Int) := by omega
        have hjb : j ≤ 20000 := by omega
        obtain ⟨v, hv⟩ : ∃ v, atC zs p inc j - atC ys q jnc j = v := ⟨_, rfl⟩
        have hsg := (H3.out.sign (t := j) (by omega)).1
        have hvb := dif_bd H3.out.g H3.out.k (t := j) (by omega)
        rw [hv] at hsg hvb
        obtain ⟨hvb1, hvb2⟩ := hvb
        have HV := Lib.hid hv
        have HS := Lib.hid hsg
        have HJ := Lib.hid hj
        clear hv hsg hj
        go_wp2_with fail
        clear c0 c1 c2 c3 c4 c5 c6 c7 c8 f0 f1 f2 f3 f4 f5 f6 f7 f8
        refine (diff_at a n cap zs p inc a2 n2 cap2 ys q jnc S L c _ (H3.out.under HX.out) j j rfl (by omega) v HV.out).mono ?_
        rintro e w5 ⟨rfl, hb⟩
        have HX2 := Lib.hid (HX.out.trans (hb.mono HX.out.size))
        clear hb
        obtain ⟨⟨c0, c1, c2, f0, f1, f2⟩, c3, c4, c5, c6, c7, c8, f3, f4, f5, f6, f7, f8⟩ := KE3.out.below HX2.out
        by_cases hpos : v ≤ 0
        · go_wp2_with fail
          exact ⟨⟨r + 1, T, by go_num, rfl, by omega, hT, HI.out.skip HP.out hc1 (by rw [HJ.out]; have := HS.out; omega), HX2⟩, by simp [intOf]; omega⟩
        · have hpos2 : 0 < v := by omega
          by_cases hcz : c = 0
          · subst hcz
            go_wp2_with fail
            obtain ⟨rfl, rfl⟩ := HE.out.unique (set_stay HP.out hL1 (r := r) (by rw [HJ.out]; exact HS.out.2 hpos2))
            exact bodyPost_ret (v := .tuple #[.int .i64 0, .bool false, .int .i64 0]) (by simp [results, Try.results20, go_sem]) rfl ⟨rfl, HB3.out.trans (HX2.out.mono HB3.out.size)⟩
          · have hcn : c < 0 := by omega
            have hdv : dC zs p inc ys q jnc j = v := by rw [HEX.out hcz, HV.out]
            have hv3 : v ≤ 1073741824 * 20001 := by
              have h1 := (H3.out.g.bd (HNE.out hcz).1 j).2
              have h2 := H3.out.k.nonneg j
              have := HV.out
              omega
            obtain ⟨m, hm⟩ : ∃ m, (v - 1) / (-c) = m := ⟨_, rfl⟩
            have hm0 : 0 ≤ m := by rw [← hm]; exact Int.ediv_nonneg (by omega) (by omega)
            have hm1 : m ≤ v - 1 := by rw [← hm]; exact Int.ediv_le_self _ (by omega)
            have hcw : IntKind.i64.wrap (-c) = -c := IntWalk.i64_in _ ⟨by omega, by omega⟩
            have hmt : (v - 1).tdiv (-c) = m := by rw [Int.tdiv_eq_ediv_of_nonneg (by omega)]; exact hm
            obtain ⟨P, hP⟩ : ∃ P, m * (L : Int) = P := ⟨_, rfl⟩
            have hPb : 0 ≤ P ∧ P ≤ (1073741824 * 20001) * 14400 := by
              rw [← hP]; exact ⟨Int.mul_nonneg (by omega) (by omega), Int.mul_le_mul (by omega) (by omega) (by omega) (by omega)⟩
            obtain ⟨hP0, hP1⟩ := hPb
            have hPw : IntKind.i64.wrap (m * (L : Int)) = P := by rw [hP]; exact IntWalk.i64_in _ ⟨by omega, by omega⟩
            have hst : ∀ T' : Nat, (T' : Int) = max (T : Int) ((j : Int) + P + 1) → SetI (dC zs p inc ys q jnc) S L (r + 1) T' := fun T' hT' => by
              refine HI.out.fall HP.out hL1 hcn (by rw [HJ.out]; exact HS.out.2 hpos2) ?_
              rw [HJ.out, hdv, hm, hP]; exact hT'
            have HST := Lib.hid hst
            have hcn2 : ¬ -c = 0 := by omega
            clear hdv hst
            obtain ⟨X, hX⟩ : ∃ X : Nat, (X : Int) = (j : Int) + P + 1 := ⟨((j : Int) + P + 1).toNat, by omega⟩
            have hX2 : (j : Int) + P = (X : Int) - 1 := by omega
            have hXb : X ≤ 400000000000000000 := by omega
            have HXX := Lib.hid hX
            clear hX
            by_cases hmx : T < X
            · have hmx2 : (T : Int) < (X : Int) := by omega
              go_wp2_with fail
              exact ⟨⟨r + 1, X, by go_num, rfl, by omega, hXb, HST.out X (by have := HXX.out; omega), HX2⟩, by simp [intOf]; omega⟩
            · have hmx2 : ¬ (T : Int) < (X : Int) := by omega
              go_wp2_with fail
              exact ⟨⟨r + 1, T, by go_num, rfl, by omega, hT, HST.out T (by have := HXX.out; omega), HX2⟩, by simp [intOf]; omega⟩
      · obtain rfl : r = L := by omega
        have hlt' : ¬ (r : Int) < (r : Int) := by omega
        go_wp2_with fail
        obtain ⟨rfl, rfl⟩ := HE.out.unique (HI.out.done hL1)
        exact bodyPost_ret (v := .tuple #[.int .i64 T, .bool true, .int .i64 0]) (by simp [results, Try.results20, go_sem]) rfl ⟨rfl, HB3.out.trans (HX.out.mono HB3.out.size)⟩

set_option maxHeartbeats 3200000 in
theorem meets_ok (hE : MeetP (dC zs p inc ys q jnc) t ok) : Calls Try.prog 22 #[curV a n cap p inc, curV a2 n2 cap2 q jnc] w (Tick3 t ok 0 w) := by
  have hB := two_boxes w (.cells #[.slice a n cap, .int .i64 p, .int .i64 inc] 24) (.cells #[.slice a2 n2 cap2, .int .i64 q, .int .i64 jnc] 24)
  have HBl := Lib.hid hB
  obtain ⟨S, hS⟩ : ∃ S, max (n - p) (n2 - q) = S := ⟨_, rfl⟩
  obtain ⟨L, hL⟩ : ∃ L, p / Nat.gcd p q * q = L := ⟨_, rfl⟩
  obtain ⟨c, hc⟩ : ∃ c, growC zs p inc ys q jnc L = c := ⟨_, rfl⟩
  have hD : DifOk w a n cap zs p inc a2 n2 cap2 ys q jnc S L := ⟨g, k, h, h2, hS, hL⟩
  have H := Lib.hid (hD.under hB)
  have hPer := hD.per
  rw [hc] at hPer
  have HP := Lib.hid hPer
  obtain ⟨hS1, hL1, hL2⟩ := hD.small
  have HE := Lib.hid hE
  have HC := Lib.hid hc
  clear h h2 hB hS hL hc hD hPer hE g k
  go_enter Try.func22, Try.ntmps22
  go_wp2_with fail
  refine (sub_ok a n cap zs p inc H.out.g a2 n2 cap2 ys q jnc H.out.k S L c H.out.s H.out.l HC.out _ H.out.r H.out.r2).mono ?_
  rintro e w1 ⟨rfl, hb⟩
  have HB2 := Lib.hid ((HBl.out.trans (hb.mono HBl.out.size)).alloc (HBl.out.trans (hb.mono HBl.out.size)).size (.cells #[.slice a n cap, .int .i64 p, .int .i64 inc, .slice a2 n2 cap2, .int .i64 q, .int .i64 jnc, .int .i64 S, .int .i64 L, .int .i64 c] 52))
  have H2 := Lib.hid ((H.out.under hb).under (box_below w1 (.cells #[.slice a n cap, .int .i64 p, .int .i64 inc, .slice a2 n2 cap2, .int .i64 q, .int .i64 jnc, .int .i64 S, .int .i64 L, .int .i64 c] 52)))
  have KE := Lib.hid (dif_new w1 (.slice a n cap) (.int .i64 p) (.int .i64 inc) (.slice a2 n2 cap2) (.int .i64 q) (.int .i64 jnc) (.int .i64 S) (.int .i64 L) (.int .i64 c) 52)
  clear hb H
  by_cases hc0 : c = 0
  · subst hc0
    go_wp2_with fail
    generalize w1.alloc (.cells #[.slice a n cap, .int .i64 p, .int .i64 inc, .slice a2 n2 cap2, .int .i64 q, .int .i64 jnc, .int .i64 S, .int .i64 L, .int .i64 0] 52) = w3 at HB2 H2 KE ⊢
    go_loopw [24] (fun s24 wx => ∃ (r : Nat), s24 = .int .i64 r ∧ r ≤ L ∧ Hid (∀ s, s < r → dC zs p inc ys q jnc (S + s) = 0) ∧ Hid (Below w3.heap.size w3 wx)) (fun s24 _ => L - (intOf s24).toNat)
    case atStart => exact ⟨0, by go_num, by omega, fun s hs => absurd hs (Nat.not_lt_zero _), Below.refl _ _⟩
    case round =>
      obtain ⟨r, rfl, hr, HU, HX⟩ := hrel
      obtain ⟨w4, rfl⟩ : ∃ u : World, u = wr := ⟨_, rfl⟩
      obtain ⟨⟨c0, c1, c2, f0, f1, f2⟩, c3, c4, c5, c6, c7, c8, f3, f4, f5, f6, f7, f8⟩ := KE.out.below HX.out
      by_cases hlt : r < L
      · have hlt' : (r : Int) < (L : Int) := by omega
        obtain ⟨j, hj⟩ : ∃ j, S + r = j := ⟨_, rfl⟩
        have qj : (S : Int) + (r : Int) = (j : Int) := by omega
        have hjb : j ≤ 20000 := by omega
        obtain ⟨v, hv⟩ : ∃ v, atC zs p inc j - atC ys q jnc j = v := ⟨_, rfl⟩
        have hsg := (H2.out.sign (t := j) (by omega)).2
        rw [hv] at hsg
        have HV := Lib.hid hv
        have HS := Lib.hid hsg
        have HJ := Lib.hid hj
        clear hv hsg hj
        go_wp2_with fail
        clear c0 c1 c2 c3 c4 c5 c6 c7 c8 f0 f1 f2 f3 f4 f5 f6 f7 f8
        refine (diff_at a n cap zs p inc a2 n2 cap2 ys q jnc S L 0 _ (H2.out.under HX.out) j j rfl (by omega) v HV.out).mono ?_
        rintro e w5 ⟨rfl, hb⟩
        have HX2 := Lib.hid (HX.out.trans (hb.mono HX.out.size))
        clear hb
        by_cases hz : v = 0
        · have hz' : (v != 0) = false := by simpa using hz
          have HZ := Lib.hid (HS.out.2 hz)
          clear hz
          go_wp2_with fail
          exact ⟨⟨r + 1, by go_num, by omega, fun s hs => by
            by_cases he : s = r
            · subst he; rw [HJ.out]; exact HZ.out
            · exact HU.out s (by omega), HX2⟩, by simp [intOf]; omega⟩
        · have hz' : (v != 0) = true := by simpa using hz
          have HZ := Lib.hid (fun h => hz (HS.out.1 h))
          clear hz
          go_wp2_with fail
          obtain ⟨rfl, rfl⟩ := HE.out.unique (meet_stay HP.out hL1 (r := r) (by rw [HJ.out]; exact HZ.out))
          exact bodyPost_ret (v := .tuple #[.int .i64 0, .bool false, .int .i64 0]) (by simp [results, Try.results22, go_sem]) rfl ⟨rfl, HB2.out.trans (HX2.out.mono HB2.out.size)⟩
      · obtain rfl : r = L := by omega
        have hlt' : ¬ (r : Int) < (r : Int) := by omega
        go_wp2_with fail
        clear c0 c1 c2 c3 c4 c5 c6 c7 c8 f0 f1 f2 f3 f4 f5 f6 f7 f8
        refine (settledBefore_any 40 (fun v => v != 0) (enters_of Try.func40 (by kernel_rfl) rfl) (fun v b w hb => meets1_any v b w hb) a n cap zs p inc a2 n2 cap2 ys q jnc S r 0 _ (H2.out.under HX.out)).mono ?_
        rintro e w5 ⟨T0, hT0, hT1, hT2, rfl, hb⟩
        have hM : MeetP (dC zs p inc ys q jnc) T0 true := meet_yes HP.out hL1 HU.out (fun u hu ht => by
            have h1 := hT1 u hu ht
            rw [(H2.out.sign (t := u) (by omega)).2]; simpa using h1) (hT2.imp id fun h3 => by
            rw [(H2.out.sign (t := T0 - 1) (by omega)).2]; simpa using h3)
        obtain ⟨rfl, rfl⟩ := HE.out.unique hM
        have HX2 := Lib.hid (HX.out.trans (hb.mono HX.out.size))
        clear hb hT1 hT2 hM
        go_wp2_with fail
        exact bodyPost_ret (v := .tuple #[.int .i64 T0, .bool true, .int .i64 0]) (by simp [results, Try.results22, go_sem]) rfl ⟨rfl, HB2.out.trans (HX2.out.mono HB2.out.size)⟩
  · have hc' : (c != 0) = true := by simpa using hc0
    have HC0 := Lib.hid hc0
    clear hc0
    go_wp2_with fail
    obtain ⟨rfl, rfl⟩ := HE.out.unique (meet_no HP.out hL1 HC0.out)
    exact bodyPost_ret (v := .tuple #[.int .i64 0, .bool false, .int .i64 0]) (by simp [results, Try.results22, go_sem]) rfl ⟨rfl, HB2.out⟩
end
end Go.Proofs.Ytgdkjmmlgnmidaa
