/- Contracts of package order: firstPositive, settledBeforeStart. By the verifier's side. -/
import Derived.Test.YtgdkjmmlgnmidaaOrdB
namespace Go.Proofs.Ytgdkjmmlgnmidaa
open Go.RowKit
set_option linter.unusedSimpArgs false

/-- What is known of a difference that stands in block b of a world: both lists, and the numbers. -/
structure DifOk (w : World) (a : Option Addr) (n cap : Nat) (zs : List Int) (p : Nat) (inc : Int) (a2 : Option Addr) (n2 cap2 : Nat) (ys : List Int) (q : Nat) (jnc : Int) (S L : Nat) : Prop where
  g : Good zs p inc
  k : Good ys q jnc
  r : RowZ w a n cap zs
  r2 : RowZ w a2 n2 cap2 ys
  s : max (n - p) (n2 - q) = S
  l : p / Nat.gcd p q * q = L
section
variable {w w' : World} {a : Option Addr} {n cap : Nat} {zs : List Int} {p : Nat} {inc : Int} {a2 : Option Addr} {n2 cap2 : Nat} {ys : List Int} {q : Nat} {jnc : Int} {S L : Nat}
theorem DifOk.under (h : DifOk w a n cap zs p inc a2 n2 cap2 ys q jnc S L) (hb : Below w.heap.size w w') : DifOk w' a n cap zs p inc a2 n2 cap2 ys q jnc S L := ⟨h.g, h.k, h.r.under hb, h.r2.under hb, h.s, h.l⟩
theorem DifOk.lcm (h : DifOk w a n cap zs p inc a2 n2 cap2 ys q jnc S L) : Lcm p q L := lcm_of h.g.p1 h.k.p1 h.l
theorem DifOk.small (h : DifOk w a n cap zs p inc a2 n2 cap2 ys q jnc S L) : S ≤ 400 ∧ 1 ≤ L ∧ L ≤ 14400 := by
  have h1 := h.s; have h2 := h.r.len; have h3 := h.r2.len; have h4 := h.g.few; have h5 := h.k.few
  exact ⟨by omega, h.lcm.one, Nat.le_trans h.lcm.le (Nat.mul_le_mul h.g.p2 h.k.p2)⟩
theorem DifOk.per (h : DifOk w a n cap zs p inc a2 n2 cap2 ys q jnc S L) : Per (dC zs p inc ys q jnc) S L (growC zs p inc ys q jnc L) := by
  have h1 := h.s; have h2 := h.r.len; have h3 := h.r2.len
  exact dC_per h.g h.k h.lcm (by omega) (by omega)
theorem DifOk.sign (h : DifOk w a n cap zs p inc a2 n2 cap2 ys q jnc S L) {t : Nat} (ht : t ≤ 1048576) :
    (0 < dC zs p inc ys q jnc t ↔ 0 < atC zs p inc t - atC ys q jnc t) ∧ (dC zs p inc ys q jnc t = 0 ↔ atC zs p inc t - atC ys q jnc t = 0) := by
  obtain ⟨h1, h2⟩ := dC_sign h.g h.k ht
  exact ⟨by rw [h1]; omega, by rw [h2]; omega⟩
theorem DifOk.exact (h : DifOk w a n cap zs p inc a2 n2 cap2 ys q jnc S L) (hc : ¬ growC zs p inc ys q jnc L = 0) (t : Nat) : dC zs p inc ys q jnc t = atC zs p inc t - atC ys q jnc t :=
  dC_fin (growC_ne h.g h.k hc).1 (growC_ne h.g h.k hc).2 t
end

theorem diff_at (a : Option Addr) (n cap : Nat) (zs : List Int) (p : Nat) (inc : Int) (a2 : Option Addr) (n2 cap2 : Nat) (ys : List Int) (q : Nat) (jnc : Int) (S L : Nat) (c : Int) (w : World) (h : DifOk w a n cap zs p inc a2 n2 cap2 ys q jnc S L)
    (ti : Int) (t : Nat) (hti : ti = t) (ht : t ≤ 1048576) (v : Int) (hv : atC zs p inc t - atC ys q jnc t = v) :
    Calls Try.prog 33 #[difV a n cap p inc a2 n2 cap2 q jnc S L c, .int .i64 ti] w (Says (.int .i64 v) w) :=
  dat_at a n cap zs p inc h.g a2 n2 cap2 ys q jnc h.k S L c ti t hti ht v hv w h.r h.r2

/-- The least of the ticks of all residue classes at which a growing difference is positive. -/
def LeastF (d : Nat → Int) (S L : Nat) (c : Int) (w : World) (e : Ending) (w' : World) : Prop :=
  ∃ x : Int, (∀ r, r < L → x ≤ farT d S L c r) ∧ (∃ r, r < L ∧ x = farT d S L c r) ∧ e = .returned (.int .i64 x) ∧ Below w.heap.size w w'

/-- What the loop over the residue classes has found. -/
def MinI (d : Nat → Int) (S L : Nat) (c : Int) (r : Nat) (x : Int) : Prop :=
  (r = 0 ∧ x = 9223372036854775807) ∨ ((∀ s, s < r → x ≤ farT d S L c s) ∧ ∃ s, s < r ∧ x = farT d S L c s)
theorem MinI.step {d : Nat → Int} {S L : Nat} {c : Int} {r : Nat} {x y z : Int} (h : MinI d S L c r x) (hy : farT d S L c r = y) (hy2 : y ≤ 9223372036854775807) (hz : z = min x y) : MinI d S L c (r + 1) z := by
  rcases h with ⟨rfl, rfl⟩ | ⟨h1, s, hs, rfl⟩
  · refine .inr ⟨fun s hs => ?_, 0, by omega, by omega⟩
    obtain rfl : s = 0 := by omega
    omega
  · refine .inr ⟨fun u hu => ?_, ?_⟩
    · by_cases he : u = r
      · subst he; omega
      · have := h1 u (by omega); omega
    · by_cases hle : farT d S L c s ≤ y
      · exact ⟨s, by omega, by omega⟩
      · exact ⟨r, by omega, by omega⟩

set_option maxRecDepth 100000 in
set_option maxHeartbeats 3200000 in
theorem first_any (a : Option Addr) (n cap : Nat) (zs : List Int) (p : Nat) (inc : Int) (a2 : Option Addr) (n2 cap2 : Nat) (ys : List Int) (q : Nat) (jnc : Int) (S L : Nat) (c : Int) (w : World) (h : DifOk w a n cap zs p inc a2 n2 cap2 ys q jnc S L)
    (hc : growC zs p inc ys q jnc L = c) (hc0 : 0 < c) (hle : ∀ u, u < S + L → dC zs p inc ys q jnc u ≤ 0) :
    Calls Try.prog 34 #[difV a n cap p inc a2 n2 cap2 q jnc S L c] w (LeastF (dC zs p inc ys q jnc) S L c w) := by
  have hB := box_below w (.cells #[.slice a n cap, .int .i64 p, .int .i64 inc, .slice a2 n2 cap2, .int .i64 q, .int .i64 jnc, .int .i64 S, .int .i64 L, .int .i64 c] 52)
  have HBl := Lib.hid hB
  have H := Lib.hid (h.under hB)
  have KD := Lib.hid (dif_new w (.slice a n cap) (.int .i64 p) (.int .i64 inc) (.slice a2 n2 cap2) (.int .i64 q) (.int .i64 jnc) (.int .i64 S) (.int .i64 L) (.int .i64 c) 52)
  have HLE := Lib.hid hle
  obtain ⟨hS, hL1, hL2⟩ := h.small
  have hne : ¬ growC zs p inc ys q jnc L = 0 := by omega
  have HEX := Lib.hid (h.exact hne)
  have hcb : c ≤ 14400 * 1073741824 := by
    obtain ⟨l1, e1⟩ : ∃ l, L / p = l := ⟨_, rfl⟩
    obtain ⟨l2, e2⟩ : ∃ l, L / q = l := ⟨_, rfl⟩
    have h3 : l1 ≤ L := by rw [← e1]; exact Nat.div_le_self _ _
    have h1 : (l1 : Int) * inc ≤ 14400 * 1073741824 := Int.mul_le_mul (by omega) h.g.i1 h.g.i0 (by omega)
    have h2 : 0 ≤ (l2 : Int) * jnc := Int.mul_nonneg (by omega) h.k.i0
    have h4 := growC_fin (p := p) (q := q) (inc := inc) (jnc := jnc) (growC_ne h.g h.k hne).1 (growC_ne h.g h.k hne).2 (L := L)
    rw [e1, e2] at h4
    omega
  have HNE := Lib.hid hne
  clear hne
  clear h hB hle hc
  go_enter Try.func34, Try.ntmps34
  go_wp2_with fail
  generalize w.alloc (.cells #[.slice a n cap, .int .i64 p, .int .i64 inc, .slice a2 n2 cap2, .int .i64 q, .int .i64 jnc, .int .i64 S, .int .i64 L, .int .i64 c] 52) = w0 at HBl H KD ⊢
  go_loopw [3, 9] (fun s3 s9 wx => ∃ (r : Nat) (x : Int), s9 = .int .i64 r ∧ s3 = .int .i64 x ∧ r ≤ L ∧ (0 ≤ x ∧ x ≤ 9223372036854775807) ∧ Hid (MinI (dC zs p inc ys q jnc) S L c r x) ∧ Hid (Below w0.heap.size w0 wx)) (fun _ s9 _ => L - (intOf s9).toNat)
  case atStart => exact ⟨0, _, rfl, rfl, by omega, ⟨by omega, by omega⟩, .inl ⟨rfl, rfl⟩, Below.refl _ _⟩
  case round =>
    obtain ⟨r, x, rfl, rfl, hr, ⟨hx0, hx1⟩, HM, HX⟩ := hrel
    obtain ⟨w1, rfl⟩ : ∃ u : World, u = wr := ⟨_, rfl⟩
    by_cases hlt : r < L
    · have hlt' : (r : Int) < (L : Int) := by omega
      obtain ⟨v, hv⟩ : ∃ v, atC zs p inc (S + r) - atC ys q jnc (S + r) = v := ⟨_, rfl⟩
      have hdv : dC zs p inc ys q jnc (S + r) = v := by rw [HEX.out, hv]
      have hv0 : v ≤ 0 := by have := HLE.out (S + r) (by omega); omega
      have hvb := dif_bd H.out.g H.out.k (t := S + r) (by omega)
      rw [hv] at hvb
      have HV := Lib.hid hv
      have HBV := at_bd H.out.g (t := S + r) (by omega)
      have HBW := H.out.k.nonneg (S + r)
      have hvb2 : -(1073741824 * 20000) ≤ v := by
        have hi := (growC_ne H.out.g H.out.k (HNE.out)).2
        have h6 := (H.out.k.bd hi (S + r)).2
        have h7 := H.out.g.nonneg (S + r)
        omega
      obtain ⟨m, hm⟩ : ∃ m, -v / c = m := ⟨_, rfl⟩
      have hm0 : 0 ≤ m := by rw [← hm]; exact Int.ediv_nonneg (by omega) (by omega)
      have hm1 : m ≤ -v := by rw [← hm]; exact Int.ediv_le_self _ (by omega)
      have q1 : IntKind.i64.wrap (-v) = -v := IntWalk.i64_in _ ⟨by omega, by omega⟩
      have q2 : (-v).tdiv c = m := by rw [Int.tdiv_eq_ediv_of_nonneg (by omega)]; exact hm
      have q3 : IntKind.i64.wrap m = m := IntWalk.i64_in _ ⟨by omega, by omega⟩
      have q4 : IntKind.i64.wrap (m + 1) = m + 1 := IntWalk.i64_in _ ⟨by omega, by omega⟩
      have q5 : ¬ c = 0 := by omega
      obtain ⟨P, hP⟩ : ∃ P, (m + 1) * (L : Int) = P := ⟨_, rfl⟩
      have hPb : 0 ≤ P ∧ P ≤ (1073741824 * 20000 + 1) * 14400 := by
        rw [← hP]; exact ⟨Int.mul_nonneg (by omega) (by omega), Int.mul_le_mul (by omega) (by omega) (by omega) (by omega)⟩
      have q6 : IntKind.i64.wrap ((m + 1) * (L : Int)) = P := by rw [hP]; exact IntWalk.i64_in _ ⟨by omega, by omega⟩
      obtain ⟨T, hT⟩ : ∃ T : Nat, T = S + r := ⟨_, rfl⟩
      have q7 : (S : Int) + (r : Int) = (T : Int) := by omega
      have hT2 : T ≤ 20000 := by omega
      have hfar : farT (dC zs p inc ys q jnc) S L c r = (T : Int) + P := by unfold farT; rw [hdv, hm, hP, ← hT]
      have HF := Lib.hid hfar
      rw [← hT] at hv
      have HV2 := Lib.hid hv
      have KX := Lib.hid (KD.out.below HX.out)
      have HH := Lib.hid (H.out.under HX.out)
      have q8 : IntKind.i64.wrap ((T : Int) + P) = (T : Int) + P := IntWalk.i64_in _ ⟨by omega, by omega⟩
      obtain ⟨⟨c0, c1, c2, f0, f1, f2⟩, c3, c4, c5, c6, c7, c8, f3, f4, f5, f6, f7, f8⟩ := KX.out
      clear hv hdv hm hP hT hfar hvb HBV HBW
      go_wp2_with fail
      clear c0 c1 c2 c3 c4 c5 c6 c7 c8 f0 f1 f2 f3 f4 f5 f6 f7 f8
      go_region_held3 (fun u => DifS w1 w.heap.size (.slice a n cap) (.int .i64 p) (.int .i64 inc) (.slice a2 n2 cap2) (.int .i64 q) (.int .i64 jnc) (.int .i64 S) (.int .i64 L) (.int .i64 c) u)
        (first | with_reducible exact difs_drew KX.out | with_reducible exact difs_call (by assumption) hbx)
        (first
          | (go_at_call 33; ((with_reducible refine (diff_at a n cap zs p inc a2 n2 cap2 ys q jnc S L c _ (HH.out.under (difs_below (by assumption))) T T rfl (by omega) v HV2.out).mono ?_); rintro e w2 ⟨rfl, hbx⟩)))
      have hD : DifS w1 w.heap.size (.slice a n cap) (.int .i64 p) (.int .i64 inc) (.slice a2 n2 cap2) (.int .i64 q) (.int .i64 jnc) (.int .i64 S) (.int .i64 L) (.int .i64 c) w2 := by assumption
      obtain ⟨⟨c0, c1, c2, f0, f1, f2⟩, c3, c4, c5, c6, c7, c8, f3, f4, f5, f6, f7, f8⟩ := difs_dif hD
      have HX2 := Lib.hid (HX.out.trans ((difs_below hD).mono HX.out.size))
      clear hD
      by_cases hmin : x ≤ (T : Int) + P
      · have hmin' : ¬ (T : Int) + P < x := by omega
        go_wp2_with fail
        exact ⟨⟨r + 1, x, by go_num, rfl, by omega, ⟨hx0, hx1⟩, HM.out.step HF.out (by omega) (by omega), HX2⟩, by simp [intOf]; omega⟩
      · have hmin' : (T : Int) + P < x := by omega
        go_wp2_with fail
        exact ⟨⟨r + 1, (T : Int) + P, by go_num, rfl, by omega, ⟨by omega, by omega⟩, HM.out.step HF.out (by omega) (by omega), HX2⟩, by simp [intOf]; omega⟩
    · obtain rfl : r = L := by omega
      have HM2 := Lib.hid (HM.out.resolve_left (fun hh => by have := hh.1; omega))
      have hlt' : ¬ (r : Int) < (r : Int) := by omega
      obtain ⟨⟨c0, c1, c2, f0, f1, f2⟩, c3, c4, c5, c6, c7, c8, f3, f4, f5, f6, f7, f8⟩ := KD.out.below HX.out
      go_wp2_with fail
      go_ret
      exact ⟨x, HM2.out.1, HM2.out.2, rfl, HBl.out.trans (HX.out.mono HBl.out.size)⟩

/-- The tick behind the last disturbing one before the start. -/
def LastB (f : Nat → Bool) (S : Nat) (w : World) (e : Ending) (w' : World) : Prop :=
  ∃ T : Nat, T ≤ S ∧ (∀ u, u < S → T ≤ u → f u = false) ∧ (T = 0 ∨ f (T - 1) = true) ∧ e = .returned (.int .i64 T) ∧ Below w.heap.size w w'

set_option maxRecDepth 100000 in
set_option maxHeartbeats 3200000 in
theorem settledBefore_any (fid : FuncId) (pr : Int → Bool) (eg : ∀ (args : Array Value) (w : World), (callFunc fid args).run Try.prog w = .ok (.enter fid args) w)
    (hP : ∀ (v : Int) (b : Bool) (w : World), pr v = b → Calls Try.prog fid #[.int .i64 v] w fun e w' => e = .returned (.bool b) ∧ w = w')
    (a : Option Addr) (n cap : Nat) (zs : List Int) (p : Nat) (inc : Int) (a2 : Option Addr) (n2 cap2 : Nat) (ys : List Int) (q : Nat) (jnc : Int) (S L : Nat) (c : Int) (w : World) (h : DifOk w a n cap zs p inc a2 n2 cap2 ys q jnc S L) :
    Calls Try.prog 38 #[difV a n cap p inc a2 n2 cap2 q jnc S L c, .func (.func fid) #[] #[]] w (LastB (fun u => pr (atC zs p inc u - atC ys q jnc u)) S w) := by
  have hB := box_below w (.cells #[.slice a n cap, .int .i64 p, .int .i64 inc, .slice a2 n2 cap2, .int .i64 q, .int .i64 jnc, .int .i64 S, .int .i64 L, .int .i64 c] 52)
  have HBl := Lib.hid hB
  have H := Lib.hid (h.under hB)
  have KD := Lib.hid (dif_new w (.slice a n cap) (.int .i64 p) (.int .i64 inc) (.slice a2 n2 cap2) (.int .i64 q) (.int .i64 jnc) (.int .i64 S) (.int .i64 L) (.int .i64 c) 52)
  obtain ⟨hS, hL1, hL2⟩ := h.small
  have HPR := Lib.hid hP
  clear h hB hP
  go_enter Try.func38, Try.ntmps38
  go_wp2_with fail
  generalize w.alloc (.cells #[.slice a n cap, .int .i64 p, .int .i64 inc, .slice a2 n2 cap2, .int .i64 q, .int .i64 jnc, .int .i64 S, .int .i64 L, .int .i64 c] 52) = w0 at HBl H KD ⊢
  go_loopw [5, 9] (fun s5 s9 wx => ∃ (r T : Nat), s9 = .int .i64 r ∧ s5 = .int .i64 T ∧ r ≤ S ∧ T ≤ r ∧ Hid (∀ u, u < r → T ≤ u → pr (atC zs p inc u - atC ys q jnc u) = false) ∧ Hid (T = 0 ∨ pr (atC zs p inc (T - 1) - atC ys q jnc (T - 1)) = true) ∧ Hid (Below w0.heap.size w0 wx)) (fun _ s9 _ => S - (intOf s9).toNat)
  case atStart => exact ⟨0, 0, by go_num, by go_num, by omega, by omega, fun u hu => absurd hu (Nat.not_lt_zero _), .inl rfl, Below.refl _ _⟩
  case round =>
    obtain ⟨r, T, rfl, rfl, hr, hT, HU, HT, HX⟩ := hrel
    obtain ⟨w1, rfl⟩ : ∃ u : World, u = wr := ⟨_, rfl⟩
    obtain ⟨⟨c0, c1, c2, f0, f1, f2⟩, c3, c4, c5, c6, c7, c8, f3, f4, f5, f6, f7, f8⟩ := KD.out.below HX.out
    by_cases hlt : r < S
    · have hlt' : (r : Int) < (S : Int) := by omega
      obtain ⟨v, hv⟩ : ∃ v, atC zs p inc r - atC ys q jnc r = v := ⟨_, rfl⟩
      obtain ⟨b, hb⟩ : ∃ b, pr v = b := ⟨_, rfl⟩
      have HV := Lib.hid hv
      have HB := Lib.hid hb
      have hvb : pr (atC zs p inc r - atC ys q jnc r) = b := by rw [hv, hb]
      have HVB := Lib.hid hvb
      clear hv hb hvb
      go_wp2_with fail
      clear c0 c1 c2 c3 c4 c5 c6 c7 c8 f0 f1 f2 f3 f4 f5 f6 f7 f8
      refine (diff_at a n cap zs p inc a2 n2 cap2 ys q jnc S L c _ (H.out.under HX.out) r r rfl (by omega) v HV.out).mono ?_
      rintro e w2 ⟨rfl, hb2⟩
      have HX2 := Lib.hid (HX.out.trans (hb2.mono HX.out.size))
      clear hb2
      obtain ⟨⟨c0, c1, c2, f0, f1, f2⟩, c3, c4, c5, c6, c7, c8, f3, f4, f5, f6, f7, f8⟩ := KD.out.below HX2.out
      go_wp2_with fail
      refine (HPR.out v b _ HB.out).mono ?_
      rintro e w3 ⟨rfl, rfl⟩
      cases b with
      | true =>
        go_wp2_with fail
        exact ⟨⟨r + 1, r + 1, by go_num, by go_num, by omega, by omega, fun u hu hu2 => by omega, .inr HVB.out, HX2⟩, by simp [intOf]; omega⟩
      | false =>
        go_wp2_with fail
        exact ⟨⟨r + 1, T, by go_num, rfl, by omega, by omega, fun u hu hu2 => by
          by_cases he : u = r
          · subst he; exact HVB.out
          · exact HU.out u (by omega) hu2, HT, HX2⟩, by simp [intOf]; omega⟩
    · obtain rfl : r = S := by omega
      have hlt' : ¬ (r : Int) < (r : Int) := by omega
      go_wp2_with fail
      go_ret
      exact ⟨T, hT, HU.out, HT.out, rfl, HBl.out.trans (HX.out.mono HBl.out.size)⟩

theorem settles1_any (v : Int) (b : Bool) (w : World) (hb : decide (0 < v) = b) : Calls Try.prog 39 #[.int .i64 v] w fun e w' => e = .returned (.bool b) ∧ w = w' := by
  go_enter Try.func39, Try.ntmps39
  go_wp2
  go_ret
  exact ⟨rfl, rfl⟩
theorem meets1_any (v : Int) (b : Bool) (w : World) (hb : (v != 0) = b) : Calls Try.prog 40 #[.int .i64 v] w fun e w' => e = .returned (.bool b) ∧ w = w' := by
  go_enter Try.func40, Try.ntmps40
  go_wp2
  go_ret
  exact ⟨rfl, rfl⟩
end Go.Proofs.Ytgdkjmmlgnmidaa
