/- Contracts of the document's Settles, Meets and AtMost. By the verifier's side. -/
import Derived.Test.YtgdkjmmlgnmidaaOrdR
namespace Go.Proofs.Ytgdkjmmlgnmidaa
open Go.RowKit
set_option linter.unusedSimpArgs false

/-- What the document's loop over the ticks has found: T is behind all positive ticks that it has seen, those of their residue classes counted with them. -/
def LastI (d : Nat → Int) (m L j T : Nat) : Prop :=
  (j ≤ m ∧ (∀ u, u < j → T ≤ u → d u ≤ 0) ∧ (T = 0 ∨ 0 < d (T - 1))) ∨ (m ≤ j ∧ SetI d m L (j - m) T)
theorem LastI.set {d : Nat → Int} {m L j T : Nat} (h : LastI d m L j T) (hj : m ≤ j) : SetI d m L (j - m) T := by
  rcases h with ⟨h0, h1, h2⟩ | ⟨_, h⟩
  · obtain rfl : j = m := by omega
    rw [Nat.sub_self]
    exact SetI.start (fun u hu ht => by have := h1 u hu ht; omega) h2
  · exact h
theorem LastI.early {d : Nat → Int} {m L j T : Nat} (h : LastI d m L j T) (hj : j < m) : (∀ u, u < j → T ≤ u → d u ≤ 0) ∧ (T = 0 ∨ 0 < d (T - 1)) := by
  rcases h with ⟨_, h1, h2⟩ | ⟨h0, _⟩
  · exact ⟨h1, h2⟩
  · omega
theorem LastI.skip {d : Nat → Int} {m L j T : Nat} {c : Int} (hP : Per d m L c) (hc : c ≤ 0) (h : LastI d m L j T) (hd : d j ≤ 0) : LastI d m L (j + 1) T := by
  by_cases hj : j < m
  · obtain ⟨h1, h2⟩ := h.early hj
    refine .inl ⟨by omega, fun u hu ht => ?_, h2⟩
    by_cases he : u = j
    · subst he; exact hd
    · exact h1 u (by omega) ht
  · have hs := (h.set (by omega)).skip hP hc (r := j - m) (by rw [show m + (j - m) = j by omega]; exact hd)
    exact .inr ⟨by omega, by rwa [show j + 1 - m = j - m + 1 by omega]⟩
theorem LastI.seen {d : Nat → Int} {m L j T T' : Nat} (h : LastI d m L j T) (hj : j < m) (hd : 0 < d j) (hT : (T' : Int) = max (T : Int) ((j : Int) + 1)) : LastI d m L (j + 1) T' := by
  obtain ⟨h1, h2⟩ := h.early hj
  refine .inl ⟨by omega, fun u hu ht => ?_, ?_⟩
  · exact h1 u (by omega) (by omega)
  · by_cases he : T' = j + 1
    · subst he; exact .inr (by rw [Nat.add_sub_cancel]; exact hd)
    · obtain rfl : T' = T := by omega
      exact h2
theorem LastI.fall {d : Nat → Int} {m L j T T' : Nat} {c : Int} (hP : Per d m L c) (hL : 1 ≤ L) (hc : c < 0) (h : LastI d m L j T) (hj : m ≤ j) (hd : 0 < d j) (hT : (T' : Int) = max (T : Int) ((j : Int) + ((d j - 1) / (-c)) * (L : Int) + 1)) : LastI d m L (j + 1) T' := by
  have e : m + (j - m) = j := by omega
  have hs := (h.set hj).fall hP hL hc (T' := T') (r := j - m) (by rw [e]; exact hd) (by rw [e]; exact hT)
  exact .inr ⟨by omega, by rwa [show j + 1 - m = j - m + 1 by omega]⟩
theorem LastI.done {d : Nat → Int} {m L j T : Nat} (h : LastI d m L j T) (hL : 1 ≤ L) (hj : j = m + L) : SetP d T true := by
  have := h.set (by omega)
  rw [hj, Nat.add_sub_cancel_left] at this
  exact this.done hL

/-- How Meets follows from two answers of Settles. -/
def MeetsK (b1 b2 ok : Bool) (x y t : Int) : Prop := (b1 = false → ok = false ∧ t = 0) ∧ (b1 = true → b2 = true → ok = true ∧ t = max x y) ∧ (b1 = true → b2 = false → ok = false ∧ t = 0)
section
variable (a : Option Addr) (n cap : Nat) (zs : List Int) (p : Nat) (inc : Int) (g : Good zs p inc) (a2 : Option Addr) (n2 cap2 : Nat) (ys : List Int) (q : Nat) (jnc : Int) (k : Good ys q jnc) (t : Int) (ok : Bool)
    (w : World) (h : RowZ w a n cap zs) (h2 : RowZ w a2 n2 cap2 ys)
include g k h h2

set_option maxRecDepth 100000 in
set_option maxHeartbeats 6400000 in
theorem rsettles_ok (hE : SetP (dC zs p inc ys q jnc) t ok) : Calls Try.prog 21 #[curV a n cap p inc, curV a2 n2 cap2 q jnc] w (Tick3 t ok 0 w) := by
  have hB := two_boxes w (.cells #[.slice a n cap, .int .i64 p, .int .i64 inc] 24) (.cells #[.slice a2 n2 cap2, .int .i64 q, .int .i64 jnc] 24)
  have HBl := Lib.hid hB
  have T0 := Lib.hid (show Two ((w.alloc (.cells #[.slice a n cap, .int .i64 p, .int .i64 inc] 24)).alloc (.cells #[.slice a2 n2 cap2, .int .i64 q, .int .i64 jnc] 24)) w.heap.size a n cap p inc zs (w.heap.size + 1) a2 n2 cap2 q jnc ys from
    ⟨(Cur3.new w (.slice a n cap) (.int .i64 p) (.int .i64 inc) 24).alloc _, h.under hB, Cur3.new2 w _ _ _ _ _, h2.under hB⟩)
  obtain ⟨m, hm⟩ : ∃ m, max n n2 = m := ⟨_, rfl⟩
  obtain ⟨L, hL⟩ : ∃ L, p / Nat.gcd p q * q = L := ⟨_, rfl⟩
  obtain ⟨G, hG⟩ : ∃ G, ((L / p : Nat) : Int) * inc - ((L / q : Nat) : Int) * jnc = G := ⟨_, rfl⟩
  obtain ⟨c, hc⟩ : ∃ c, growC zs p inc ys q jnc L = c := ⟨_, rfl⟩
  have hLL := lcm_of g.p1 k.p1 hL
  have hL1 := hLL.one
  have hLb : L ≤ 14400 := Nat.le_trans hLL.le (Nat.mul_le_mul g.p2 k.p2)
  have hmb : m ≤ 400 := by have := g.few; have := k.few; have := h.len; have := h2.len; omega
  have hPer := dC_per g k hLL (show zs.length - p ≤ m by have := h.len; omega) (show ys.length - q ≤ m by have := h2.len; omega)
  rw [hc] at hPer
  have HP := Lib.hid hPer
  have hcf : ¬ InfC zs → ¬ InfC ys → c = G := fun i1 i2 => by rw [← hc, growC_fin i1 i2, hG]
  have hci : InfC zs ∨ InfC ys → c = 0 := fun i => by rw [← hc, growC_inf g k i]
  have HCF := Lib.hid (And.intro hcf hci)
  have hGb : -(14400 * 1073741824) ≤ G ∧ G ≤ 14400 * 1073741824 := by
    obtain ⟨lp, hlp⟩ : ∃ l, L / p = l := ⟨_, rfl⟩
    obtain ⟨lq, hlq⟩ : ∃ l, L / q = l := ⟨_, rfl⟩
    have hlp2 : lp ≤ L := by rw [← hlp]; exact Nat.div_le_self _ _
    have hlq2 : lq ≤ L := by rw [← hlq]; exact Nat.div_le_self _ _
    rw [hlp, hlq] at hG
    have e1 : 0 ≤ (lp : Int) * inc := Int.mul_nonneg (by omega) g.i0
    have e2 : 0 ≤ (lq : Int) * jnc := Int.mul_nonneg (by omega) k.i0
    have e3 : (lp : Int) * inc ≤ 14400 * 1073741824 := Int.mul_le_mul (by omega) g.i1 g.i0 (by omega)
    have e4 : (lq : Int) * jnc ≤ 14400 * 1073741824 := Int.mul_le_mul (by omega) k.i1 k.i0 (by omega)
    omega
  obtain ⟨hGb1, hGb2⟩ := hGb
  obtain ⟨M, hM⟩ : ∃ M, m + L = M := ⟨_, rfl⟩
  have qM : (m : Int) + (L : Int) = (M : Int) := by omega
  have hMb : M ≤ 20000 := by omega
  have HW := Lib.hid (And.intro hm (And.intro hL hG))
  have HMM := Lib.hid hM
  have HG := Lib.hid g
  have HK := Lib.hid k
  have HE := Lib.hid hE
  have V1 := Lib.hid ((okC_iff zs p inc).2 g)
  have V2 := Lib.hid ((okC_iff ys q jnc).2 k)
  have ip := g.p2; have ii0 := g.i0; have ii1 := g.i1
  have iq := k.p2; have ij0 := k.i0; have ij1 := k.i1
  obtain ⟨b1, hb1⟩ : ∃ b, finB zs p inc = b := ⟨_, rfl⟩
  obtain ⟨b2, hb2⟩ : ∃ b, finB ys q jnc = b := ⟨_, rfl⟩
  have hF1 : b1 = true ↔ ¬ InfC zs := by rw [← hb1]; exact finB_of g
  have hF2 : b2 = true ↔ ¬ InfC ys := by rw [← hb2]; exact finB_of k
  have HB12 := Lib.hid (And.intro hb1 hb2)
  have hcb : (b1 = true ∧ b2 = true ∧ c = G) ∨ (¬ (b1 = true ∧ b2 = true) ∧ c = 0) := by
    by_cases x1 : b1 = true
    · by_cases x2 : b2 = true
      · exact .inl ⟨x1, x2, hcf (hF1.1 x1) (hF2.1 x2)⟩
      · exact .inr ⟨fun hh => x2 hh.2, hci (.inr (Classical.byContradiction fun hn => x2 (hF2.2 hn)))⟩
    · exact .inr ⟨fun hh => x1 hh.1, hci (.inl (Classical.byContradiction fun hn => x1 (hF1.2 hn)))⟩
  have HCB := Lib.hid hcb
  have HFF := Lib.hid (And.intro (show IffB b1 (¬ InfC zs) from hF1) (show IffB b2 (¬ InfC ys) from hF2))
  clear h h2 hB hm hL hG hc hLL hPer hcf hci hM g k hE hb1 hb2 hF1 hF2 hcb
  go_enter Try.func21, Try.ntmps21
  go_wp2_with fail
  generalize (w.alloc (.cells #[.slice a n cap, .int .i64 p, .int .i64 inc] 24)).alloc (.cells #[.slice a2 n2 cap2, .int .i64 q, .int .i64 jnc] 24) = w0 at HBl T0 ⊢
  refine (rvalid_any a n cap zs p inc ⟨by omega, by omega⟩ ⟨by omega, by omega⟩ true V1.out _ T0.out.rx).mono ?_
  rintro e w1 ⟨rfl, hb⟩
  have T1 := Lib.hid (T0.out.under hb)
  have HB1 := Lib.hid (HBl.out.trans (hb.mono HBl.out.size))
  clear hb T0 HBl
  obtain ⟨d0, d1, d2, g0, g1, g2⟩ := T1.out.by'
  go_wp2_with fail
  clear d0 d1 d2 g0 g1 g2
  refine (rvalid_any a2 n2 cap2 ys q jnc ⟨by omega, by omega⟩ ⟨by omega, by omega⟩ true V2.out _ T1.out.ry).mono ?_
  rintro e w2 ⟨rfl, hb⟩
  have T2 := Lib.hid (T1.out.under hb)
  have HB2 := Lib.hid (HB1.out.trans (hb.mono HB1.out.size))
  clear hb T1 HB1
  obtain ⟨c0, c1, c2, f0, f1, f2⟩ := T2.out.bx
  obtain ⟨d0, d1, d2, g0, g1, g2⟩ := T2.out.by'
  go_wp2_with fail
  clear c0 c1 c2 f0 f1 f2 d0 d1 d2 g0 g1 g2
  refine (window_any a n cap zs p inc HG.out a2 n2 cap2 ys q jnc HK.out m L G HW.out.1 HW.out.2.1 HW.out.2.2 _ T2.out.rx T2.out.ry).mono ?_
  rintro e w4 ⟨rfl, hb⟩
  have T4 := Lib.hid (T2.out.under hb)
  have HB4 := Lib.hid (HB2.out.trans (hb.mono HB2.out.size))
  clear hb T2 HB2
  obtain ⟨c0, c1, c2, f0, f1, f2⟩ := T4.out.bx
  go_upto_region 4 with fail
  go_cut [35] (fun s35 wx => ∃ b3 : Bool, s35 = .bool b3 ∧ (b3 = true → c = 0) ∧ (b3 = false → c = G) ∧ Hid (Below w4.heap.size w4 wx))
  case first =>
    go_wp2_with fail
    clear c0 c1 c2 f0 f1 f2
    refine (rfinite_any a n cap zs p inc ⟨by omega, by omega⟩ ⟨by omega, by omega⟩ b1 HB12.out.1 _ T4.out.rx).mono ?_
    rintro e w5 ⟨rfl, hb⟩
    have T5 := Lib.hid (T4.out.under hb)
    have HX5 := Lib.hid hb
    clear hb
    cases b1 with
    | false =>
      have hc0 : c = 0 := by rcases HCB.out with hh | hh <;> simp at hh <;> omega
      go_wp2_with fail
      go_meet
      exact ⟨true, rfl, fun _ => hc0, fun h => (by cases h), HX5⟩
    | true =>
      obtain ⟨d0, d1, d2, g0, g1, g2⟩ := T5.out.by'
      go_wp2_with fail
      clear d0 d1 d2 g0 g1 g2
      refine (rfinite_any a2 n2 cap2 ys q jnc ⟨by omega, by omega⟩ ⟨by omega, by omega⟩ b2 HB12.out.2 _ T5.out.ry).mono ?_
      rintro e w6 ⟨rfl, hb⟩
      have HX6 := Lib.hid (HX5.out.trans (hb.mono HX5.out.size))
      clear hb
      cases b2 with
      | false =>
        have hc0 : c = 0 := by rcases HCB.out with hh | hh <;> simp at hh <;> omega
        go_wp2_with fail
        go_meet
        exact ⟨true, rfl, fun _ => hc0, fun h => (by cases h), HX6⟩
      | true =>
        have hc0 : c = G := by rcases HCB.out with hh | hh <;> simp at hh <;> omega
        go_wp2_with fail
        go_meet
        exact ⟨false, rfl, fun h => (by cases h), fun _ => hc0, HX6⟩
  case rest =>
    clear c0 c1 c2 f0 f1 f2
    obtain ⟨b3, rfl, hb3, hb4, HX5⟩ := hcut
    obtain ⟨w5, rfl⟩ : ∃ u : World, u = wc := ⟨_, rfl⟩
    have H34 := Lib.hid (And.intro hb3 hb4)
    clear hb3 hb4
    go_upto_if 35 with fail
    go_cut [9] (fun s9 wx => s9 = .int .i64 c ∧ wx = w5)
    case first =>
      cases b3 with
      | true =>
        have e0 := H34.out.1 rfl
        go_wp2_with fail
        go_meet
        exact ⟨by rw [e0], rfl⟩
      | false =>
        have e0 := H34.out.2 rfl
        go_wp2_with fail
        go_meet
        exact ⟨by rw [e0], rfl⟩
    case rest =>
      obtain ⟨rfl, rfl⟩ := hcut
      obtain ⟨w6, rfl⟩ : ∃ u : World, u = wc := ⟨_, rfl⟩
      have T6 := Lib.hid (T4.out.under HX5.out)
      have HB6 := Lib.hid (HB4.out.trans (HX5.out.mono HB4.out.size))
      have hcb1 : -(14400 * 1073741824) ≤ c ∧ c ≤ 14400 * 1073741824 := by rcases HCB.out with hh | hh <;> omega
      obtain ⟨hcl, hcu⟩ := hcb1
      clear H34 HX5 T4 HB4
      go_wp2_with fail
      go_loopw [10, 11] (fun s10 s11 wx => ∃ (j T : Nat) (x : Int), s11 = .int .i64 j ∧ s10 = .int .i64 x ∧ x + 1 = (T : Int) ∧ j ≤ M ∧ T ≤ 400000000000000000 ∧ Hid (c ≤ 0 → LastI (dC zs p inc ys q jnc) m L j T) ∧ Hid (Below w6.heap.size w6 wx)) (fun _ s11 _ => M - (intOf s11).toNat)
      case atStart => exact ⟨0, 0, -1, by go_num, rfl, by omega, by omega, by omega, fun _ => .inl ⟨Nat.zero_le _, fun u hu => absurd hu (Nat.not_lt_zero _), .inl rfl⟩, Below.refl _ _⟩
      case round =>
        obtain ⟨j, T, x, rfl, rfl, hxT, hj, hTb, HI, HX⟩ := hrel
        obtain ⟨w7, rfl⟩ : ∃ u : World, u = wr := ⟨_, rfl⟩
        have T7 := Lib.hid (T6.out.under HX.out)
        have HXT := Lib.hid hxT
        have hx0 : -1 ≤ x := by omega
        have hx1 : x ≤ 400000000000000000 := by omega
        clear hxT
        obtain ⟨c0, c1, c2, f0, f1, f2⟩ := T7.out.bx
        obtain ⟨d0, d1, d2, g0, g1, g2⟩ := T7.out.by'
        by_cases hlt : j < M
        · have hlt' : (j : Int) < (M : Int) := by omega
          obtain ⟨v, hv⟩ : ∃ v, abV (atC zs p inc j) (atC ys q jnc j) = v := ⟨_, rfl⟩
          have hsg := ab_sign HG.out HK.out (t := j) (by omega)
          have hvb := ab_bd HG.out HK.out (t := j) (by omega)
          rw [hv] at hsg hvb
          obtain ⟨hvb1, hvb2⟩ := hvb
          have HV := Lib.hid hv
          have HS := Lib.hid hsg
          clear hv hsg
          go_wp2_with fail
          clear c0 c1 c2 f0 f1 f2 d0 d1 d2 g0 g1 g2
          refine (above_at a n cap zs p inc HG.out a2 n2 cap2 ys q jnc HK.out j j rfl (by omega) v HV.out _ T7.out.rx T7.out.ry).mono ?_
          rintro e w8 ⟨rfl, hb⟩
          have HX2 := Lib.hid (HX.out.trans (hb.mono HX.out.size))
          clear hb
          by_cases hpos : v ≤ 0
          · go_wp2_with fail
            exact ⟨⟨j + 1, T, x, by go_num, rfl, HXT.out, by omega, hTb, fun hc => (HI.out hc).skip HP.out hc (by have := HS.out; omega), HX2⟩, by simp [intOf]; omega⟩
          · have hpos2 : 0 < v := by omega
            have hdp := HS.out.1 hpos2
            have HDP := Lib.hid hdp
            clear hdp
            by_cases hjm : j < m
            · have hjm' : (j : Int) < (m : Int) := by omega
              by_cases hmx : x < (j : Int)
              · go_wp2_with fail
                exact ⟨⟨j + 1, j + 1, (j : Int), by go_num, rfl, by omega, by omega, by omega, fun hc => (HI.out hc).seen hjm HDP.out (by have := HXT.out; omega), HX2⟩, by simp [intOf]; omega⟩
              · go_wp2_with fail
                exact ⟨⟨j + 1, T, x, by go_num, rfl, HXT.out, by omega, hTb, fun hc => (HI.out hc).seen hjm HDP.out (by have := HXT.out; omega), HX2⟩, by simp [intOf]; omega⟩
            · have hjm' : ¬ (j : Int) < (m : Int) := by omega
              by_cases hcz : 0 ≤ c
              · have hset : SetP (dC zs p inc ys q jnc) 0 false := by
                  by_cases hc0 : c = 0
                  · have hP := HP.out
                    rw [hc0] at hP
                    exact set_stay hP hL1 (r := j - m) (by rw [show m + (j - m) = j by omega]; exact HDP.out)
                  · exact set_up HP.out hL1 (by omega)
                have HSE := Lib.hid hset
                clear hset
                go_wp2_with fail
                obtain ⟨rfl, rfl⟩ := HE.out.unique HSE.out
                exact bodyPost_ret (v := .tuple #[.int .i64 0, .bool false, .int .i64 0]) (by simp [results, Try.results21, go_sem]) rfl ⟨rfl, HB6.out.trans (HX2.out.mono HB6.out.size)⟩
              · have hcn : c < 0 := by omega
                obtain ⟨hbt1, hbt2, hcG⟩ : b1 = true ∧ b2 = true ∧ c = G := by rcases HCB.out with hh | hh <;> omega
                subst hbt1 hbt2
                clear hcG
                have hdv : dC zs p inc ys q jnc j = v := by rw [← HV.out, ab_exact HG.out HK.out HFF.out.1.get HFF.out.2.get (by omega)]
                have hv3 : v ≤ 1073741824 * 20001 := by
                  rw [← hdv, dC_fin HFF.out.1.get HFF.out.2.get]
                  have h1 := (HG.out.bd HFF.out.1.get j).2
                  have h2 := HK.out.nonneg j
                  omega
                obtain ⟨d, hd⟩ : ∃ d, (v - 1) / (-c) = d := ⟨_, rfl⟩
                have hd0' : 0 ≤ d := by rw [← hd]; exact Int.ediv_nonneg (by omega) (by omega)
                have hd1' : d ≤ v - 1 := by rw [← hd]; exact Int.ediv_le_self _ (by omega)
                have hcw : IntKind.i64.wrap (-c) = -c := IntWalk.i64_in _ ⟨by omega, by omega⟩
                have hmt : (v - 1).tdiv (-c) = d := by rw [Int.tdiv_eq_ediv_of_nonneg (by omega)]; exact hd
                obtain ⟨P, hP⟩ : ∃ P, d * (L : Int) = P := ⟨_, rfl⟩
                have hPb : 0 ≤ P ∧ P ≤ (1073741824 * 20001) * 14400 := by
                  rw [← hP]; exact ⟨Int.mul_nonneg (by omega) (by omega), Int.mul_le_mul (by omega) (by omega) (by omega) (by omega)⟩
                obtain ⟨hP0, hP1⟩ := hPb
                have hPw : IntKind.i64.wrap (d * (L : Int)) = P := by rw [hP]; exact IntWalk.i64_in _ ⟨by omega, by omega⟩
                have hst : ∀ T' : Nat, (T' : Int) = max (T : Int) ((j : Int) + P + 1) → LastI (dC zs p inc ys q jnc) m L (j + 1) T' := fun T' hT' => by
                  refine (HI.out (by omega)).fall HP.out hL1 hcn (by omega) HDP.out ?_
                  rw [hdv, hd, hP]; exact hT'
                have HST := Lib.hid hst
                have hcn2 : ¬ -c = 0 := by omega
                obtain ⟨X, hX⟩ : ∃ X : Nat, (j : Int) + P = (X : Int) := ⟨((j : Int) + P).toNat, by omega⟩
                have hXb : X ≤ 390000000000000000 := by omega
                have HXX := Lib.hid hX
                clear hdv hst hP
                by_cases hmx : x < (X : Int)
                · go_wp2_with fail
                  exact ⟨⟨j + 1, X + 1, (X : Int), by go_num, rfl, by omega, by omega, by omega, fun _ => HST.out _ (by have := HXT.out; have := HXX.out; omega), HX2⟩, by simp [intOf]; omega⟩
                · go_wp2_with fail
                  exact ⟨⟨j + 1, T, x, by go_num, rfl, HXT.out, by omega, hTb, fun _ => HST.out _ (by have := HXT.out; have := HXX.out; omega), HX2⟩, by simp [intOf]; omega⟩
        · have hlt' : ¬ (j : Int) < (M : Int) := by omega
          have HD := Lib.hid (fun (hc : c ≤ 0) => (HI.out hc).done hL1 (show j = m + L by have := HMM.out; omega))
          go_wp2_with fail
          clear c0 c1 c2 f0 f1 f2 d0 d1 d2 g0 g1 g2
          refine (rfinite_any a n cap zs p inc ⟨by omega, by omega⟩ ⟨by omega, by omega⟩ b1 HB12.out.1 _ T7.out.rx).mono ?_
          rintro e w8 ⟨rfl, hb⟩
          have T8 := Lib.hid (T7.out.under hb)
          have HX8 := Lib.hid (HX.out.trans (hb.mono HX.out.size))
          clear hb T7 HX
          cases b1 with
          | false =>
            have hc0 : c ≤ 0 := by rcases HCB.out with hh | hh <;> simp at hh <;> omega
            have hx9 := HXT.out
            have HC0 := Lib.hid hc0
            clear hc0
            go_wp2_with fail
            obtain ⟨rfl, rfl⟩ := HE.out.unique (HD.out HC0.out)
            exact bodyPost_ret (v := .tuple #[.int .i64 T, .bool true, .int .i64 0]) (by simp [results, Try.results21, go_sem]) rfl ⟨rfl, HB6.out.trans (HX8.out.mono HB6.out.size)⟩
          | true =>
            obtain ⟨d0, d1, d2, g0, g1, g2⟩ := T8.out.by'
            go_wp2_with fail
            clear d0 d1 d2 g0 g1 g2
            refine (rfinite_any a2 n2 cap2 ys q jnc ⟨by omega, by omega⟩ ⟨by omega, by omega⟩ b2 HB12.out.2 _ T8.out.ry).mono ?_
            rintro e w9 ⟨rfl, hb⟩
            have HX9 := Lib.hid (HX8.out.trans (hb.mono HX8.out.size))
            have hx9 := HXT.out
            clear hb T8 HX8
            cases b2 with
            | false =>
              have hc0 : c ≤ 0 := by rcases HCB.out with hh | hh <;> simp at hh <;> omega
              have HC0 := Lib.hid hc0
              clear hc0
              go_wp2_with fail
              obtain ⟨rfl, rfl⟩ := HE.out.unique (HD.out HC0.out)
              exact bodyPost_ret (v := .tuple #[.int .i64 T, .bool true, .int .i64 0]) (by simp [results, Try.results21, go_sem]) rfl ⟨rfl, HB6.out.trans (HX9.out.mono HB6.out.size)⟩
            | true =>
              by_cases hc0 : 0 < c
              · go_wp2_with fail
                obtain ⟨rfl, rfl⟩ := HE.out.unique (set_up HP.out hL1 hc0)
                exact bodyPost_ret (v := .tuple #[.int .i64 0, .bool false, .int .i64 0]) (by simp [results, Try.results21, go_sem]) rfl ⟨rfl, HB6.out.trans (HX9.out.mono HB6.out.size)⟩
              · have HC0 := Lib.hid (show c ≤ 0 by omega)
                go_wp2_with fail
                obtain ⟨rfl, rfl⟩ := HE.out.unique (HD.out HC0.out)
                exact bodyPost_ret (v := .tuple #[.int .i64 T, .bool true, .int .i64 0]) (by simp [results, Try.results21, go_sem]) rfl ⟨rfl, HB6.out.trans (HX9.out.mono HB6.out.size)⟩

set_option maxHeartbeats 1600000 in
theorem ratMost_ok (hE : ExcP (dC zs p inc ys q jnc) t ok) : Calls Try.prog 19 #[curV a n cap p inc, curV a2 n2 cap2 q jnc] w (Says (.bool (!ok)) w) := by
  have hB := two_boxes w (.cells #[.slice a n cap, .int .i64 p, .int .i64 inc] 24) (.cells #[.slice a2 n2 cap2, .int .i64 q, .int .i64 jnc] 24)
  have HBl := Lib.hid hB
  have T0 := Lib.hid (show Two ((w.alloc (.cells #[.slice a n cap, .int .i64 p, .int .i64 inc] 24)).alloc (.cells #[.slice a2 n2 cap2, .int .i64 q, .int .i64 jnc] 24)) w.heap.size a n cap p inc zs (w.heap.size + 1) a2 n2 cap2 q jnc ys from
    ⟨(Cur3.new w (.slice a n cap) (.int .i64 p) (.int .i64 inc) 24).alloc _, h.under hB, Cur3.new2 w _ _ _ _ _, h2.under hB⟩)
  have HG := Lib.hid g
  have HK := Lib.hid k
  have HE := Lib.hid hE
  clear h h2 hB hE g k
  go_enter Try.func19, Try.ntmps19
  go_wp2_with fail
  refine (rexceeds_ok a n cap zs p inc HG.out a2 n2 cap2 ys q jnc HK.out t ok _ T0.out.rx T0.out.ry HE.out).mono ?_
  rintro e w1 ⟨rfl, hb⟩
  have HB1 := Lib.hid (HBl.out.trans (hb.mono HBl.out.size))
  clear hb
  cases ok with
  | true =>
    go_wp2_with fail
    go_ret
    exact ⟨rfl, HB1.out⟩
  | false =>
    go_wp2_with fail
    go_ret
    exact ⟨rfl, HB1.out⟩

set_option maxHeartbeats 1600000 in
theorem rmeets_ok (hE : MeetP (dC zs p inc ys q jnc) t ok) : Calls Try.prog 23 #[curV a n cap p inc, curV a2 n2 cap2 q jnc] w (Tick3 t ok 0 w) := by
  have hB := two_boxes w (.cells #[.slice a n cap, .int .i64 p, .int .i64 inc] 24) (.cells #[.slice a2 n2 cap2, .int .i64 q, .int .i64 jnc] 24)
  have HBl := Lib.hid hB
  have T0 := Lib.hid (show Two ((w.alloc (.cells #[.slice a n cap, .int .i64 p, .int .i64 inc] 24)).alloc (.cells #[.slice a2 n2 cap2, .int .i64 q, .int .i64 jnc] 24)) w.heap.size a n cap p inc zs (w.heap.size + 1) a2 n2 cap2 q jnc ys from
    ⟨(Cur3.new w (.slice a n cap) (.int .i64 p) (.int .i64 inc) 24).alloc _, h.under hB, Cur3.new2 w _ _ _ _ _, h2.under hB⟩)
  have HG := Lib.hid g
  have HK := Lib.hid k
  obtain ⟨x, b1, h1⟩ := setP_ex (dC zs p inc ys q jnc)
  obtain ⟨y, b2, h3⟩ := setP_ex (dC ys q jnc zs p inc)
  obtain ⟨z, b3, h4⟩ := excP_ex (dC zs p inc ys q jnc)
  obtain ⟨_, k2, k3⟩ := dual_math (dC_neg zs p inc ys q jnc) h1 h3 h4 hE
  have hfz : ok = false → t = 0 := fun ho => by
    rcases hE with ⟨hh, _⟩ | ⟨_, hh, _⟩
    · rw [ho] at hh; cases hh
    · exact hh
  have K := Lib.hid (show MeetsK b1 b2 ok x y t from ⟨fun hb => ⟨(k2 hb).2, hfz (k2 hb).2⟩, fun hb hb2 => ⟨by have := (k3 hb).1; rw [this]; exact hb2, ((k3 hb).2 hb2).2⟩, fun hb hb2 => by
    have := (k3 hb).1
    rw [hb2] at this
    exact ⟨this, hfz this⟩⟩)
  have S1 := Lib.hid h1
  have S2 := Lib.hid h3
  clear h h2 hB hE g k h1 h3 h4 k2 k3 hfz
  go_enter Try.func23, Try.ntmps23
  go_wp2_with fail
  generalize (w.alloc (.cells #[.slice a n cap, .int .i64 p, .int .i64 inc] 24)).alloc (.cells #[.slice a2 n2 cap2, .int .i64 q, .int .i64 jnc] 24) = w0 at HBl T0 ⊢
  refine (rsettles_ok a n cap zs p inc HG.out a2 n2 cap2 ys q jnc HK.out x b1 _ T0.out.rx T0.out.ry S1.out).mono ?_
  rintro e w1 ⟨rfl, hb⟩
  have T1 := Lib.hid (T0.out.under hb)
  have HB1 := Lib.hid (HBl.out.trans (hb.mono HBl.out.size))
  clear hb T0 HBl
  obtain ⟨c0, c1, c2, f0, f1, f2⟩ := T1.out.bx
  obtain ⟨d0, d1, d2, g0, g1, g2⟩ := T1.out.by'
  go_wp2_with fail
  clear c0 c1 c2 f0 f1 f2 d0 d1 d2 g0 g1 g2
  refine (rsettles_ok a2 n2 cap2 ys q jnc HK.out a n cap zs p inc HG.out y b2 _ T1.out.ry T1.out.rx S2.out).mono ?_
  rintro e w2 ⟨rfl, hb⟩
  have HB2 := Lib.hid (HB1.out.trans (hb.mono HB1.out.size))
  clear hb T1 HB1 S1 S2
  cases b1 with
  | false =>
    obtain ⟨rfl, rfl⟩ := K.out.1 rfl
    go_wp2_with fail
    exact bodyPost_ret (v := .tuple #[.int .i64 0, .bool false, .int .i64 0]) (by simp [results, Try.results23, go_sem]) rfl ⟨rfl, HB2.out⟩
  | true =>
    cases b2 with
    | false =>
      obtain ⟨rfl, rfl⟩ := K.out.2.2 rfl rfl
      go_wp2_with fail
      exact bodyPost_ret (v := .tuple #[.int .i64 0, .bool false, .int .i64 0]) (by simp [results, Try.results23, go_sem]) rfl ⟨rfl, HB2.out⟩
    | true =>
      obtain ⟨rfl, hm⟩ := K.out.2.1 rfl rfl
      clear K
      rcases Int.lt_or_le x y with hlt | hle
      · obtain rfl : t = y := by omega
        clear hm
        go_wp2_with fail
        exact bodyPost_ret (v := .tuple #[.int .i64 t, .bool true, .int .i64 0]) (by simp [results, Try.results23, go_sem]) rfl ⟨rfl, HB2.out⟩
      · obtain rfl : t = x := by omega
        have hle' : ¬ t < y := by omega
        clear hm
        go_wp2_with fail
        exact bodyPost_ret (v := .tuple #[.int .i64 t, .bool true, .int .i64 0]) (by simp [results, Try.results23, go_sem]) rfl ⟨rfl, HB2.out⟩
end
end Go.Proofs.Ytgdkjmmlgnmidaa
