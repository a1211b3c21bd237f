/- Curve and FromZero of package periodic at the period 1, for whatever closure with one variable that makes memory. By the verifier's side. -/
import Derived.Test.YtknimlpdpgpliaaFPwB
namespace Go.Proofs.Ytknimlpdpgpliaa
open Go.RowKit
set_option linter.unusedSimpArgs false
set_option linter.unusedVariables false

/-- A value; nothing that was there has turned. -/
def SaysB (v : Value) (w : World) (e : Ending) (w' : World) : Prop := e = .returned v ∧ Below w.heap.size w w'
/-- What a closure gives that makes memory. -/
def ClosW (fid : FuncId) (caps : Array Value) (T : Nat) (f : Nat → Int) (w : World) : Prop :=
  ∀ (ti : Int) (t : Nat) (v : Int) (w' : World), ti = t → t < T → f t = v → Below w.heap.size w w' → Calls Try.prog fid (#[.int .i64 ti] ++ caps) w' (SaysB (.int .i64 v) w')
/-- What it gives at the ticks from 1 on. -/
def ClosW1 (fid : FuncId) (caps : Array Value) (T : Nat) (f : Nat → Int) (w : World) : Prop :=
  ∀ (ti : Int) (t : Nat) (v : Int) (w' : World), ti = t → 1 ≤ t → t < T → f t = v → Below w.heap.size w w' → Calls Try.prog fid (#[.int .i64 ti] ++ caps) w' (SaysB (.int .i64 v) w')
theorem ClosW1.above {fid : FuncId} {caps : Array Value} {T : Nat} {f : Nat → Int} {w u : World} (h : ClosW1 fid caps T f w) (hb : Below w.heap.size w u) : ClosW1 fid caps T f u :=
  fun ti t v w' h1 h2 h3 h4 h5 => h ti t v w' h1 h2 h3 h4 (hb.trans (h5.mono hb.size))
theorem ClosW.above {fid : FuncId} {caps : Array Value} {T : Nat} {f : Nat → Int} {w u : World} (h : ClosW fid caps T f w) (hb : Below w.heap.size w u) : ClosW fid caps T f u :=
  fun ti t v w' h1 h2 h3 h4 => h ti t v w' h1 h2 h3 (hb.trans (h4.mono hb.size))
theorem ClosW.congr {fid : FuncId} {caps : Array Value} {T : Nat} {f F : Nat → Int} {w : World} (h : ClosW fid caps T f w) (he : ∀ t, t < T → f t = F t) : ClosW fid caps T F w :=
  fun ti t v w' h1 h2 h3 h4 => h ti t v w' h1 h2 ((he t h2).trans h3) h4
theorem Mk1.bel {w : World} {F : Nat → Int} {S lb m k r : Nat} {D : Int} {wx w' : World} (h : Mk1 w F S lb m k r D wx) (hb : Below wx.heap.size wx w') : Mk1 w F S lb m k r D w' :=
  ⟨h.box.below hb, h.res.below hb, fun i hi => ⟨(hb.cell (lt_of_cell (h.row i hi).1)).trans (h.row i hi).1, (hb.frozen (lt_of_cell (h.row i hi).1)).trans (h.row i hi).2⟩, h.below.trans (hb.mono h.below.size)⟩

set_option maxHeartbeats 800000 in
theorem leastP1 (fid : FuncId) (caps : Array Value) (s : Nat) (w : World) : Calls Try.prog 159 #[.int .i64 s, .int .i64 1, .func (.func fid) #[] caps] w fun e w' => ∃ r : Nat, r = 1 ∧ e = .returned (.int .i64 r) ∧ w' = w := by
  go_enter Try.func159, Try.ntmps159
  go_wp2
  go_step3
  go_wp2
  go_step3
  go_wp2
  go_loopg [7] 0 (fun g s7 wx => s7 = .int .i64 1 ∧ wx = w)
  case atStart => exact ⟨rfl, rfl⟩
  case round =>
    obtain ⟨rfl, rfl⟩ := hrel
    go_wp2_with fail
    try rw [Exit.noGoto_ret]
    go_ret
    exact ⟨1, rfl, rfl, rfl⟩

theorem form_post14 {w w1 w2 : World} {b : Nat} {F : Nat → Int} (hB : Below w.heap.size w w1) (hb1 : w.heap.size ≤ b) (hb2 : b < w1.heap.size) (h2 : Below w1.heap.size w1 w2) {a : Option Addr} {n cap : Nat} {zs : List Int} {p : Nat} {inc : Int} (hr : RowZ w2 a n cap zs)
    (hx : ∀ x, a = some x → w1.heap.size ≤ x.block) (hf : Form zs p inc F) :
    GivesForm F w (.returned (.tuple #[curV a n cap p inc, .int .i64 0])) (((w2.setCell ⟨b, 0, none⟩ (.slice a n cap)).setCell ⟨b, 1, none⟩ (.int .i64 p)).setCell ⟨b, 2, none⟩ (.int .i64 inc)) := by
  have hne : ∀ x : Addr, a = some x → 1 ≤ n → x.block ≠ b := fun x h _ => by have := hx x h; omega
  exact ⟨below_set3 (hB.trans (h2.mono hB.size)) hb1 _ _ _, .inl ⟨a, n, cap, zs, p, inc, rfl, ((hr.store hne _ _).store hne _ _).store hne _ _, hf, fun x h => by have := hx x h; have := hB.size; omega⟩⟩

theorem none_post14 {w w1 w2 : World} {b : Nat} {F : Nat → Int} (hB : Below w.heap.size w w1) (hb1 : w.heap.size ≤ b) (h2 : Below w1.heap.size w1 w2) (hno : ¬ CanBe F) :
    GivesForm F w (.returned (.tuple #[curV none 0 0 0 0, .int .i64 3])) (((w2.setCell ⟨b, 0, none⟩ (.slice none 0 0)).setCell ⟨b, 1, none⟩ (.int .i64 0)).setCell ⟨b, 2, none⟩ (.int .i64 0)) :=
  ⟨below_set3 (hB.trans (h2.mono hB.size)) hb1 _ _ _, .inr ⟨rfl, hno⟩⟩

set_option maxHeartbeats 3200000 in
theorem pcurve14 (fid : FuncId) (caps : Array Value) (F : Nat → Int) (s : Nat) (c : Int) (hs : s ≤ 3000) (hbd : ∀ t, t < s + 2 → 0 ≤ F t ∧ F t ≤ 4611686018427387904) (hper : Per F s 1 c) (w : World)
    (eg : ∀ (args : Array Value) (w : World), (callFunc fid args).run Try.prog w = .ok (.enter fid args) w) (hcl : ClosW fid caps (s + 2) F w) :
    Calls Try.prog 131 #[.int .i64 s, .int .i64 1, .func (.func fid) #[] caps] w (GivesForm F w) := by
  have HBD := Lib.hid hbd
  have HCL := Lib.hid hcl
  have HPer := Lib.hid hper
  have hB0 : Below w.heap.size w (w.alloc (.cells #[.slice none 0 0, .int .i64 0, .int .i64 0] 26)) := (Below.refl _ _).alloc (Nat.le_refl _) _
  have HB0 := Lib.hid hB0
  have HC0 := Lib.hid (Cur3.new w (.slice none 0 0) (.int .i64 0) (.int .i64 0) 26)
  have hmk := make_rowP
  clear hbd hcl hper hB0
  go_enter Try.func131, Try.ntmps131
  go_wp2_with fail
  generalize w.alloc (.cells #[.slice none 0 0, .int .i64 0, .int .i64 0] 26) = W at HB0 HC0 ⊢
  refine (leastP1 fid caps s W).mono ?_
  rintro e w3 ⟨r, hre, rfl, rfl⟩
  have hr1 : 1 ≤ r := by omega
  have hr2 : r ≤ 1 := by omega
  have hP1 : 1 ≤ 1 := Nat.le_refl _
  have HRR := Lib.hid (show (r < 1 → GrowsAt F s 1 r) ∧ (∀ q, 1 ≤ q → q < r → ¬ GrowsAt F s 1 q) from ⟨fun h => by omega, fun q h1 h2 => by omega⟩)
  have D3 := Lib.hid (Below.refl w3.heap.size w3)
  clear hre
  have HCW := Lib.hid (show ∀ (ti : Int) (t : Nat) (v : Int) (w' : World), ti = t → t < s + 2 → F t = v → Below w3.heap.size w3 w' → Calls Try.prog fid (#[.int .i64 ti] ++ caps) w' (SaysB (.int .i64 v) w') from
    fun ti t v w' h1 h2 h3 h4 => HCL.out ti t v w' h1 h2 h3 (HB0.out.trans (h4.mono HB0.out.size)))
  obtain ⟨v1, hv1⟩ : ∃ v, F (s + r) = v := ⟨_, rfl⟩
  obtain ⟨v2, hv2⟩ : ∃ v, F s = v := ⟨_, rfl⟩
  have b1 := HBD.out (s + r) (by omega)
  have b2 := HBD.out s (by omega)
  rw [hv1] at b1
  rw [hv2] at b2
  obtain ⟨b11, b12⟩ := b1
  obtain ⟨b21, b22⟩ := b2
  have HV := Lib.hid (And.intro hv1 hv2)
  clear hv1 hv2
  go_wp2_with fail
  refine (HCW.out _ (s + r) v1 _ (by omega) (by omega) HV.out.1 D3.out).mono ?_
  rintro e w4 ⟨rfl, hd⟩
  have D4 := Lib.hid (D3.out.trans (hd.mono D3.out.size))
  clear hd
  go_wp2_with fail
  refine (HCW.out _ s v2 _ rfl (by omega) HV.out.2 D4.out).mono ?_
  rintro e w5 ⟨rfl, hd⟩
  have D5 := Lib.hid (D4.out.trans (hd.mono D4.out.size))
  clear hd
  go_upto_block 0 with fail
  go_cut [0] (fun s0 wx => ∃ t : Nat, s0 = .int .i64 t ∧ t ≤ s ∧ Hid (NormOf F t r (v1 - v2)) ∧ Hid (Below w3.heap.size w3 wx))
  case first =>
    go_wp2_with fail
    go_loopw [0] (fun s0 wx => ∃ t : Nat, s0 = .int .i64 t ∧ t ≤ s ∧ Hid (∀ u, t ≤ u → u < s → F (u + r) - F u = v1 - v2) ∧ Hid (Below w3.heap.size w3 wx)) (fun s0 _ => (intOf s0).toNat)
    case atStart => exact ⟨s, rfl, Nat.le_refl _, fun u h1 h2 => by omega, D5.out⟩
    case round =>
      obtain ⟨t, rfl, hts, hok, hdr⟩ := hrel
      obtain ⟨w6, rfl⟩ : ∃ u : World, u = wr := ⟨_, rfl⟩
      by_cases h0 : t = 0
      · have N0 : Hid (NormOf F t r (v1 - v2)) := Lib.hid (by
          have := normOf_found (s' := t) HPer.out hP1 hr1 hr2 HRR.out.1 HRR.out.2 hts (fun u h1 h2 => by rw [HV.out.1, HV.out.2]; exact hok.out u h1 h2) (.inl h0)
          rwa [HV.out.1, HV.out.2] at this)
        have ht0 : ¬ 0 < (t : Int) := by omega
        clear h0
        go_wp2_with fail
        go_meet
        exact ⟨t, rfl, hts, N0, hdr⟩
      · obtain ⟨k, rfl⟩ : ∃ k, t = k + 1 := ⟨t - 1, by omega⟩
        clear h0
        obtain ⟨v3, hv3⟩ : ∃ v, F (k + r) = v := ⟨_, rfl⟩
        obtain ⟨v4, hv4⟩ : ∃ v, F k = v := ⟨_, rfl⟩
        have b3 := HBD.out (k + r) (by omega)
        have b4 := HBD.out k (by omega)
        rw [hv3] at b3
        rw [hv4] at b4
        obtain ⟨b31, b32⟩ := b3
        obtain ⟨b41, b42⟩ := b4
        have HV3 := Lib.hid (And.intro hv3 hv4)
        clear hv3 hv4
        by_cases hd : v3 - v4 = v1 - v2
        · have hd' : (v3 - v4 == v1 - v2) = true := by simpa using hd
          have HD := Lib.hid hd
          clear hd
          go_wp2_with fail
          refine (HCW.out _ (k + r) v3 _ (by omega) (by omega) HV3.out.1 hdr.out).mono ?_
          rintro e w7 ⟨rfl, hd1⟩
          have D7 := Lib.hid (hdr.out.trans (hd1.mono hdr.out.size))
          clear hd1
          go_wp2_with fail
          refine (HCW.out _ k v4 _ (by omega) (by omega) HV3.out.2 D7.out).mono ?_
          rintro e w8 ⟨rfl, hd2⟩
          have D8 := Lib.hid (D7.out.trans (hd2.mono D7.out.size))
          clear hd2
          go_wp2_with fail
          go_roundw
          case rel =>
            refine ⟨k, by go_num, by omega, fun u h1 h2 => ?_, D8.out⟩
            by_cases huk : u = k
            · subst huk; rw [HV3.out.1, HV3.out.2]; exact HD.out
            · exact hok.out u (by omega) h2
          case measure => simp [intOf]; try omega
        · have hd' : (v3 - v4 == v1 - v2) = false := by simpa using hd
          have N0 : Hid (NormOf F (k + 1) r (v1 - v2)) := Lib.hid (by
            have := normOf_found (s' := k + 1) HPer.out hP1 hr1 hr2 HRR.out.1 HRR.out.2 hts (fun u h1 h2 => by rw [HV.out.1, HV.out.2]; exact hok.out u h1 h2) (.inr (by rw [Nat.add_sub_cancel, HV3.out.1, HV3.out.2, HV.out.1, HV.out.2]; exact hd))
            rwa [HV.out.1, HV.out.2] at this)
          clear hd
          go_wp2_with fail
          refine (HCW.out _ (k + r) v3 _ (by omega) (by omega) HV3.out.1 hdr.out).mono ?_
          rintro e w7 ⟨rfl, hd1⟩
          have D7 := Lib.hid (hdr.out.trans (hd1.mono hdr.out.size))
          clear hd1
          go_wp2_with fail
          refine (HCW.out _ k v4 _ (by omega) (by omega) HV3.out.2 D7.out).mono ?_
          rintro e w8 ⟨rfl, hd2⟩
          have D8 := Lib.hid (D7.out.trans (hd2.mono D7.out.size))
          clear hd2
          go_wp2_with fail
          go_meet
          exact ⟨k + 1, by go_num, hts, N0, D8⟩
  case rest =>
    obtain ⟨t, rfl, hts, HN, HD⟩ := hcut
    obtain ⟨w0, rfl⟩ : ∃ u : World, u = wc := ⟨_, rfl⟩
    have HBc : Hid (Below w.heap.size w w0) := Lib.hid (HB0.out.trans (HD.out.mono HB0.out.size))
    have HCc : Hid (Cur3 w0 w.heap.size (.slice none 0 0) (.int .i64 0) (.int .i64 0)) := Lib.hid (HC0.out.below HD.out)
    by_cases hlong : 400 < t + r
    · have h4 : (400 : Int) < (t : Int) + (r : Int) := by omega
      have HE : Hid (¬ CanBe F) := Lib.hid (no_form_long HN.out hlong)
      have HB1 := Lib.hid (below_set3 (b := w.heap.size) HBc.out (Nat.le_refl _) (.slice none 0 0) (.int .i64 0) (.int .i64 0))
      obtain ⟨c0, c1, c2, f0, f1, f2⟩ := HCc.out
      clear hlong
      go_wp2_with fail
      exact bodyPost_ret (v := .tuple #[curV none 0 0 0 0, .int .i64 3]) (by simp [results, Try.results131, go_sem, c0, c1, c2]) rfl ⟨HB1.out, .inr ⟨rfl, HE.out⟩⟩
    · obtain ⟨m, hm⟩ : ∃ m, t + r = m := ⟨_, rfl⟩
      have hm4 : m ≤ 400 := by omega
      have h4 : ¬ (400 : Int) < (t : Int) + (r : Int) := by omega
      have hmi : (t : Int) + (r : Int) = (m : Int) := by omega
      have hmk2 := hmk m (by omega)
      have HM := Lib.hid hm
      have HT0 := Lib.hid (mk1_start HBc.out HCc.out F m r (v1 - v2))
      have HLB := Lib.hid HCc.out.lt
      obtain ⟨c0, c1, c2, f0, f1, f2⟩ := HCc.out
      clear hlong hm hmk
      go_wp2_with fail
      go_loopw [58] (fun s58 wx => ∃ k : Nat, s58 = .int .i64 k ∧ k ≤ m ∧ Hid (Mk1 w F (w0.heap.size + 1) w0.heap.size m k r (v1 - v2) wx)) (fun s58 _ => m - (intOf s58).toNat)
      case atStart => exact ⟨0, by go_num, Nat.zero_le _, HT0⟩
      case round =>
        obtain ⟨k, rfl, hk, KM⟩ := hrel
        obtain ⟨wk, rfl⟩ : ∃ u : World, u = wr := ⟨_, rfl⟩
        clear c0 c1 c2 f0 f1 f2
        obtain ⟨c0, c1, c2, f0, f1, f2⟩ := KM.out.box
        by_cases hlt : k < m
        · have hlt2 : (k : Int) < (m : Int) := by omega
          obtain ⟨v, hv⟩ : ∃ v, F k = v := ⟨_, rfl⟩
          have HV5 := Lib.hid hv
          obtain ⟨z0, z1⟩ := KM.out.row k hlt
          have HCK := Lib.hid (show ∀ (ti : Int) (t : Nat) (v : Int) (w' : World), ti = t → t < s + 2 → F t = v → (∃ m, w' = wk.drewN m) → Calls Try.prog fid (#[.int .i64 ti] ++ caps) w' (fun e w1 => e = .returned (.int .i64 v) ∧ Below wk.heap.size wk w1) from
            fun ti t v w' h1 h2 h3 h4 => (HCL.out ti t v w' h1 h2 h3 (below_dr KM.out.below h4)).mono (by
              obtain ⟨m9, rfl⟩ := h4
              rintro e w9 ⟨rfl, hb⟩
              exact ⟨rfl, ((Below.refl wk.heap.size wk).drewN m9).trans hb⟩))
          clear hv
          go_wp2_with fail
          go_region_with (first
            | (go_at_fn fid; (refine (HCK.out (k : Int) k v _ rfl (by omega) HV5.out ?_).mono ?_); (focus (first | exact ⟨1, rfl⟩ | exact ⟨0, rfl⟩)); (rintro e w1 ⟨rfl, hb1⟩; obtain ⟨a0, a1, a2, g0, g1, g2⟩ := KM.out.box.below hb1; have z2 := (hb1.cell (lt_of_cell z0)).trans z0; have z3 := (hb1.frozen (lt_of_cell z0)).trans z1)))
          all_goals go_wp2_with fail
          all_goals
            refine ⟨⟨k + 1, by go_num, by omega, ?_⟩, by simp [intOf]; omega⟩
            first | exact Lib.hid ((KM.out.bel hb1).step (by omega) HLB.out hlt HV5.out) | exact Lib.hid (((KM.out.bel hb1).drewN _).step (by omega) HLB.out hlt HV5.out)
        · obtain rfl : k = m := by omega
          have hlt2 : ¬ (k : Int) < (k : Int) := by omega
          have HRW := Lib.hid (KM.out.rowZ hm4 (fun u hu => HBD.out u (by have := HM.out; omega)))
          have hDb : In64 (v1 - v2) := ⟨by omega, by omega⟩
          cases hok : okC (firsts F k) r (v1 - v2) with
          | false =>
            have HOK := Lib.hid hok
            have HNG := Lib.hid (show ¬ CanBe F from no_form HN.out (by rw [HM.out]; intro g; rw [(okC_iff _ _ _).2 g] at hok; cases hok))
            clear hok
            go_wp2_with fail
            refine (valid_any (some ⟨w0.heap.size, 0, none⟩) k k (firsts F k) r (v1 - v2) ⟨by omega, by omega⟩ hDb false HOK.out _ HRW.out).mono ?_
            rintro e w9 ⟨rfl, hb9⟩
            have HB9 := Lib.hid (KM.out.zero hb9)
            clear c0 c1 c2 f0 f1 f2
            obtain ⟨c0, c1, c2, f0, f1, f2⟩ := KM.out.res.below hb9
            clear hb9
            go_wp2_with fail
            exact bodyPost_ret (v := .tuple #[curV none 0 0 0 0, .int .i64 3]) (by simp [results, Try.results131, go_sem, c0, c1, c2]) rfl ⟨HB9.out, .inr ⟨rfl, HNG.out⟩⟩
          | true =>
            have HOK := Lib.hid hok
            have HFo := Lib.hid (show Form (firsts F k) r (v1 - v2) F by
              have g := (okC_iff _ _ _).1 hok
              have hx := HM.out
              subst hx
              exact form_of HN.out g)
            clear hok
            go_wp2_with fail
            refine (valid_any (some ⟨w0.heap.size, 0, none⟩) k k (firsts F k) r (v1 - v2) ⟨by omega, by omega⟩ hDb true HOK.out _ HRW.out).mono ?_
            rintro e w9 ⟨rfl, hb9⟩
            have HB9 := Lib.hid (KM.out.done HLB.out hm4 (fun u hu => HBD.out u (by have := HM.out; omega)) hb9 HFo.out)
            have K2 := Lib.hid (KM.out.box.below hb9)
            clear c0 c1 c2 f0 f1 f2
            obtain ⟨c0, c1, c2, f0, f1, f2⟩ := KM.out.res.below hb9
            obtain ⟨d0, d1, d2, g0, g1, g2⟩ := K2.out
            clear hb9
            go_wp2_with fail
            exact bodyPost_ret (v := .tuple #[curV (some ⟨w0.heap.size, 0, none⟩) k k r (v1 - v2), .int .i64 0]) (by simp [results, Try.results131, go_sem, c0, c1, c2]) rfl HB9.out

theorem pcurve14i (fid : FuncId) (caps : Array Value) (F : Nat → Int) (si : Int) (s : Nat) (hsi : si = s) (c : Int) (hs : s ≤ 3000) (hbd : ∀ t, t < s + 2 → 0 ≤ F t ∧ F t ≤ 4611686018427387904) (hper : Per F s 1 c) (w : World)
    (eg : ∀ (args : Array Value) (w : World), (callFunc fid args).run Try.prog w = .ok (.enter fid args) w) (hcl : ClosW fid caps (s + 2) F w) :
    Calls Try.prog 131 #[.int .i64 si, .int .i64 1, .func (.func fid) #[] caps] w (GivesForm F w) := by
  subst hsi; exact pcurve14 fid caps F s c hs hbd hper w eg hcl

set_option maxHeartbeats 800000 in
theorem fromZero1w {fid : FuncId} {caps : Array Value} {T : Nat} {f : Nat → Int} {w : World} {bv : Nat} (hv : w.cell? ⟨bv, 0, none⟩ = some (.func (.func fid) #[] caps)) (eg : ∀ (args : Array Value) (w : World), (callFunc fid args).run Try.prog w = .ok (.enter fid args) w)
    (hcl : ClosW1 fid caps T f w) :
    ClosW 155 #[.pointer (some ⟨bv, 0, none⟩)] T (fun t => if t = 0 then 0 else f t) w := by
  rintro ti t v w' rfl ht hv' hbw
  show Calls Try.prog 155 #[.int .i64 t, .pointer (some ⟨bv, 0, none⟩)] w' (SaysB (.int .i64 v) w')
  have c1 := (hbw.cell (lt_of_cell hv)).trans hv
  have HC := Lib.hid (hcl.above hbw)
  dsimp only at hv'
  clear hv hcl hbw
  by_cases hlt : t = 0
  · rw [if_pos hlt] at hv'
    subst hv' hlt
    go_enter Try.func155, Try.ntmps155
    go_wp2_with fail
    go_ret
    exact ⟨rfl, Below.refl _ _⟩
  · rw [if_neg hlt] at hv'
    have HY := Lib.hid hv'
    have hl2 : ((t : Int) == 0) = false := by simp; omega
    clear hv'
    go_enter Try.func155, Try.ntmps155
    go_wp2_with fail
    refine (HC.out _ t v _ rfl (by omega) (by omega) HY.out (Below.refl _ _)).mono ?_
    rintro e w1 ⟨rfl, hb1⟩
    go_wp2_with fail
    go_ret
    exact ⟨rfl, hb1⟩

set_option maxRecDepth 100000 in
set_option maxHeartbeats 1600000 in
theorem fromZero14 (fid : FuncId) (caps : Array Value) (f F : Nat → Int) (si : Int) (hsi : -9223372036854775808 ≤ si) (s : Nat) (hF : ∀ t, t < s + 2 → F t = if t = 0 then 0 else f t) (hsm : (s : Int) = max si 1) (c : Int) (hs : s ≤ 3000) (hbd : ∀ t, t < s + 2 → 0 ≤ F t ∧ F t ≤ 4611686018427387904) (hper : Per F s 1 c) (w : World)
    (eg : ∀ (args : Array Value) (w : World), (callFunc fid args).run Try.prog w = .ok (.enter fid args) w) (hcl : ClosW1 fid caps (s + 2) f w) :
    Calls Try.prog 109 #[.int .i64 si, .int .i64 1, .func (.func fid) #[] caps] w (GivesForm F w) := by
  have hmf : ∀ (fn : Fn) (first cap : Array Value) (w : World), (Instr.makeFunc fn first cap).run Try.prog w = .ok (.func fn first cap) w := fun _ _ _ _ => rfl
  have hB0 : Below w.heap.size w ((w.alloc (.cells #[.func (.func fid) #[] caps] 51)).alloc (.cells #[.slice none 0 0, .int .i64 0, .int .i64 0] 26)) := ((Below.refl _ _).alloc (Nat.le_refl _) _).alloc (by simp) _
  have hv : ((w.alloc (.cells #[.func (.func fid) #[] caps] 51)).alloc (.cells #[.slice none 0 0, .int .i64 0, .int .i64 0] 26)).cell? ⟨w.heap.size, 0, none⟩ = some (.func (.func fid) #[] caps) := by go_simp
  have HB0 := Lib.hid hB0
  have HC0 := Lib.hid (Cur3.new2 w (.slice none 0 0) (.int .i64 0) (.int .i64 0) 26 (.cells #[.func (.func fid) #[] caps] 51))
  have HCL := Lib.hid (show ClosW 155 #[.pointer (some ⟨w.heap.size, 0, none⟩)] (s + 2) F _ from by
    have := fromZero1w (bv := w.heap.size) hv eg (hcl.above hB0)
    exact this.congr fun t ht => (hF t ht).symm)
  have HBD := Lib.hid hbd
  have HPer := Lib.hid hper
  have eg1 : ∀ (args : Array Value) (w : World), (callFunc 155 args).run Try.prog w = .ok (.enter 155 args) w := enters_of Try.func155 (by kernel_rfl) rfl
  have HE1 := Lib.hid eg1
  have hsz : ((w.alloc (.cells #[.func (.func fid) #[] caps] 51)).alloc (.cells #[.slice none 0 0, .int .i64 0, .int .i64 0] 26)).heap.size = w.heap.size + 1 + 1 := by simp
  have HSZ := Lib.hid hsz
  have HSS := Lib.hid (And.intro hs hsm)
  rcases (show si < 1 ∨ si = 1 ∨ 1 < si by omega) with h1 | h1 | h1
  all_goals
    (try subst h1)
    clear hB0 hv hF hcl hbd hper eg eg1 hsz hs hsm
    go_enter Try.func109, Try.ntmps109
    go_wp2_with fail
    refine (pcurve14i 155 #[.pointer (some ⟨w.heap.size, 0, none⟩)] F _ s (by have := HSS.out; omega) c HSS.out.1 HBD.out HPer.out _ HE1.out HCL.out).mono ?_
    rintro e w2 ⟨hb, ⟨a, n, cap, zs, p, inc, rfl, hr, hf, hx⟩ | ⟨rfl, hno⟩⟩
    · have HP := Lib.hid (form_post14 (b := w.heap.size + 1) HB0.out (Nat.le_succ _) HC0.out.lt hb hr hx hf)
      obtain ⟨c0, c1, c2, f0, f1, f2⟩ := HC0.out.below hb
      clear hb hr hf hx
      go_wp2_with fail
      exact bodyPost_ret (v := .tuple #[curV a n cap p inc, .int .i64 0]) (by simp [results, Try.results109, go_sem, c0, c1, c2]) rfl HP.out
    · have HP := Lib.hid (none_post14 (b := w.heap.size + 1) HB0.out (Nat.le_succ _) hb hno)
      obtain ⟨c0, c1, c2, f0, f1, f2⟩ := HC0.out.below hb
      clear hb hno
      go_wp2_with fail
      exact bodyPost_ret (v := .tuple #[curV none 0 0 0 0, .int .i64 3]) (by simp [results, Try.results109, go_sem, c0, c1, c2]) rfl HP.out

end Go.Proofs.Ytknimlpdpgpliaa
