/- Contract of periodic.Curve, for whatever closure with one variable. By the verifier's side. -/
import Derived.Test.YthljhddnfflpjaaCPwA
import Derived.Test.YthljhddnfflpjaaCCurS
import Derived.Deep.CutBlock
namespace Go.Proofs.Ythljhddnfflpjaa
open Go.RowKit
set_option linter.unusedSimpArgs false

/-- The curve in normal form with the values F is handed back, or the error that there is none. -/
def GivesForm (F : Nat → Int) (w : World) (e : Ending) (w' : World) : Prop :=
  Below w.heap.size w w' ∧ ((∃ (a : Option Addr) (n cap : Nat) (zs : List Int) (p : Nat) (inc : Int), e = .returned (.tuple #[curV a n cap p inc, .int .i64 0]) ∧ RowZ w' a n cap zs ∧ Form zs p inc F ∧ ∀ x, a = some x → w.heap.size ≤ x.block) ∨
    (e = .returned (.tuple #[curV none 0 0 0 0, .int .i64 3]) ∧ ¬ CanBe F))

/-- What stands while the list is made. -/
structure Mk1 (w : World) (F : Nat → Int) (S lb m k r : Nat) (D : Int) (wx : World) : Prop where
  box : Cur3 wx S (.slice (some ⟨lb, 0, none⟩) m m) (.int .i64 r) (.int .i64 D)
  res : Cur3 wx w.heap.size (.slice none 0 0) (.int .i64 0) (.int .i64 0)
  row : ∀ i, i < m → wx.cell? ⟨lb, i, none⟩ = some (.int .i64 (if i < k then F i else 0)) ∧ wx.frozen? ⟨lb, i, none⟩ = false
  below : Below w.heap.size w wx

theorem Mk1.drewN {w : World} {F : Nat → Int} {S lb m k r : Nat} {D : Int} {wx : World} (h : Mk1 w F S lb m k r D wx) (n : Nat) : Mk1 w F S lb m k r D (wx.drewN n) :=
  ⟨h.box.drewN n, h.res.drewN n, fun i hi => h.row i hi, h.below.drewN n⟩

theorem Mk1.step {w : World} {F : Nat → Int} {S lb m k r : Nat} {D : Int} {wx : World} (h : Mk1 w F S lb m k r D wx) (hS : S ≠ lb) (hw : w.heap.size < lb) (hk : k < m) {v : Int} (hv : F k = v) : Mk1 w F S lb m (k + 1) r D (wx.setCell ⟨lb, k, none⟩ (.int .i64 v)) :=
  ⟨h.box.other hS _ _, h.res.other (by omega) _ _, fun i hi => by
    refine ⟨?_, (World.frozen?_setCell _ _ _ _).trans (h.row i hi).2⟩
    by_cases he : i = k
    · subst he
      rw [World.cell?_setCell_same _ _ _ (h.row i hi).1, if_pos (Nat.lt_succ_self _), hv]
    · rw [World.cell?_setCell_other _ _ _ _ (show _ from fun hx => he (by cases hx; rfl)), (h.row i hi).1]
      by_cases hlt : i < k
      · rw [if_pos hlt, if_pos (by omega)]
      · rw [if_neg hlt, if_neg (by omega)], h.below.setCell (by show w.heap.size ≤ lb; omega) _⟩

theorem make_rowP (m : Nat) (hm : m ≤ 1000) (w : World) : (Instr.makeSlice 22 (.int .i64 (m : Int)) (.int .i64 (m : Int))).run Try.prog w = .ok (.slice (some ⟨w.heap.size, 0, none⟩) m m) (w.alloc (.cells (madeCells #[.int .i64 0] m) 3)) := by
  have := run_make_row' (P := Try.prog) 22 3 (.int .i64 0) 8 Try.underlying22 info_int rfl .i64 .i64 m (by omega) (by omega) w
  simpa using this

/-- The making of the list and of the curve in front of it. -/
theorem mk1_start {w w1 : World} (hB : Below w.heap.size w w1) (hC : Cur3 w1 w.heap.size (.slice none 0 0) (.int .i64 0) (.int .i64 0)) (F : Nat → Int) (m r : Nat) (D : Int) :
    Mk1 w F (w1.heap.size + 1) w1.heap.size m 0 r D ((w1.alloc (.cells (madeCells #[.int .i64 0] m) 3)).alloc (.cells #[.slice (some ⟨w1.heap.size, 0, none⟩) m m, .int .i64 r, .int .i64 D] 24)) := by
  have h1 := hB.size
  refine ⟨Cur3.new2 w1 _ _ _ _ _, (hC.alloc _).alloc _, fun i hi => ?_, (hB.alloc h1 _).alloc (by simp; omega) _⟩
  have h2 := made_cell w1 m i hi
  have h3 := made_frozen w1 m i
  rw [if_neg (Nat.not_lt_zero _)]
  exact ⟨(((Below.refl _ _).alloc (Nat.le_refl _) _).cell (lt_of_cell h2)).trans h2, (((Below.refl _ _).alloc (Nat.le_refl _) _).frozen (lt_of_cell h2)).trans h3⟩

theorem Mk1.rowZ {w : World} {F : Nat → Int} {S lb m r : Nat} {D : Int} {wx : World} (h : Mk1 w F S lb m m r D wx) (hm : m ≤ 400) (hb : ∀ t, t < m → 0 ≤ F t ∧ F t ≤ 4611686018427387904) : RowZ wx (some ⟨lb, 0, none⟩) m m (firsts F m) :=
  ⟨firsts_length _ _, Nat.le_refl _, by omega, by omega, fun i hi => ⟨_, rfl, by
    have ea : ((⟨lb, 0, none⟩ : Addr).add i) = ⟨lb, i, none⟩ := by unfold Addr.add; split <;> simp_all
    rw [ea, firsts_getD _ _ _ hi, (h.row i hi).1, if_pos hi]⟩, fun i hi => by rw [firsts_getD _ _ _ hi]; have := hb i hi; exact ⟨by omega, by omega⟩⟩

theorem Mk1.zero {w : World} {F : Nat → Int} {S lb m k r : Nat} {D : Int} {wx w' : World} (h : Mk1 w F S lb m k r D wx) (hb : Below wx.heap.size wx w') : Below w.heap.size w (((w'.setCell ⟨w.heap.size, 0, none⟩ (.slice none 0 0)).setCell ⟨w.heap.size, 1, none⟩ (.int .i64 0)).setCell ⟨w.heap.size, 2, none⟩ (.int .i64 0)) :=
  below_set3 (h.below.trans (hb.mono h.below.size)) (Nat.le_refl _) _ _ _

theorem Mk1.done {w : World} {F : Nat → Int} {S lb m r : Nat} {D : Int} {wx w' : World} (h : Mk1 w F S lb m m r D wx) (hlb : w.heap.size < lb) (hm : m ≤ 400) (hb : ∀ t, t < m → 0 ≤ F t ∧ F t ≤ 4611686018427387904) (hbw : Below wx.heap.size wx w') (hf : Form (firsts F m) r D F) :
    GivesForm F w (.returned (.tuple #[curV (some ⟨lb, 0, none⟩) m m r D, .int .i64 0])) (((w'.setCell ⟨w.heap.size, 0, none⟩ (.slice (some ⟨lb, 0, none⟩) m m)).setCell ⟨w.heap.size, 1, none⟩ (.int .i64 r)).setCell ⟨w.heap.size, 2, none⟩ (.int .i64 D)) := by
  have hx : ∀ x : Addr, (some ⟨lb, 0, none⟩ : Option Addr) = some x → 1 ≤ m → x.block ≠ w.heap.size := by
    intro x hx _; cases hx; show lb ≠ w.heap.size; omega
  exact ⟨below_set3 (h.below.trans (hbw.mono h.below.size)) (Nat.le_refl _) _ _ _, .inl ⟨_, m, m, _, r, D, rfl, ((((h.rowZ hm hb).under hbw).store hx _ _).store hx _ _).store hx _ _, hf, fun x hx => by cases hx; show w.heap.size ≤ lb; omega⟩⟩

set_option maxHeartbeats 3200000 in
theorem pcurve_any (fid : FuncId) (caps : Array Value) (F : Nat → Int) (s P : Nat) (c : Int) (hP1 : 1 ≤ P) (hP2 : P ≤ 120) (hs : s ≤ 1073742000) (hbd : ∀ t, t < s + 2 * P → 0 ≤ F t ∧ F t ≤ 4611686018427387904) (hper : Per F s P c) (w : World)
    (eg : ∀ (args : Array Value) (w : World), (callFunc fid args).run Try.prog w = .ok (.enter fid args) w) (hcl : ClosG fid caps (s + 2 * P) F w) :
    Calls Try.prog 94 #[.int .i64 s, .int .i64 P, .func (.func fid) #[] caps] w (GivesForm F w) := by
  have HBD := Lib.hid hbd
  have HCL := Lib.hid hcl
  have HPer := Lib.hid hper
  have hB0 : Below w.heap.size w (w.alloc (.cells #[.slice none 0 0, .int .i64 0, .int .i64 0] 24)) := (Below.refl _ _).alloc (Nat.le_refl _) _
  have HB0 := Lib.hid hB0
  have HC0 := Lib.hid (Cur3.new w (.slice none 0 0) (.int .i64 0) (.int .i64 0) 24)
  have hmk := make_rowP
  clear hbd hcl hper hB0
  go_enter Try.func94, Try.ntmps94
  go_wp2_with fail
  generalize w.alloc (.cells #[.slice none 0 0, .int .i64 0, .int .i64 0] 24) = W at HB0 HC0 ⊢
  refine (leastPeriod_p fid caps F s P hP1 hP2 hs HBD.out W eg (HCL.out.above HB0.out)).mono ?_
  rintro e w3 ⟨r, hr1, hr2, hr3, hr4, rfl, hd⟩
  have HRR := Lib.hid (And.intro hr3 hr4)
  have D3 := Lib.hid hd
  clear hr3 hr4 hd
  have HCW := Lib.hid (show ∀ (ti : Int) (t : Nat) (v : Int) (w' : World), ti = t → t < s + 2 * P → F t = v → (∃ m, w' = W.drewN m) → Calls Try.prog fid (#[.int .i64 ti] ++ caps) w' (Drew (.int .i64 v) w') from
    fun ti t v w' h1 h2 h3 h4 => HCL.out ti t v w' h1 h2 h3 (below_dr HB0.out h4))
  obtain ⟨v1, hv1⟩ : ∃ v, F (s + r) = v := ⟨_, rfl⟩
  obtain ⟨v2, hv2⟩ : ∃ v, F s = v := ⟨_, rfl⟩
  have b1 := HBD.out (s + r) (by omega)
  have b2 := HBD.out s (by omega)
  rw [hv1] at b1
  rw [hv2] at b2
  obtain ⟨b11, b12⟩ := b1
  obtain ⟨b21, b22⟩ := b2
  have HV := Lib.hid (And.intro hv1 hv2)
  clear hv1 hv2
  go_wp2_with fail
  refine (HCW.out _ (s + r) v1 _ (by omega) (by omega) HV.out.1 D3.out).mono ?_
  rintro e w4 ⟨rfl, hd⟩
  have D4 := Lib.hid (dr_trans D3.out hd)
  clear hd
  go_wp2_with fail
  refine (HCW.out _ s v2 _ rfl (by omega) HV.out.2 D4.out).mono ?_
  rintro e w5 ⟨rfl, hd⟩
  have D5 := Lib.hid (dr_trans D4.out hd)
  clear hd
  go_upto_block 0 with fail
  go_cut [0] (fun s0 wx => ∃ t : Nat, s0 = .int .i64 t ∧ t ≤ s ∧ Hid (NormOf F t r (v1 - v2)) ∧ Hid (∃ m, wx = W.drewN m))
  case first =>
    go_wp2_with fail
    go_loopw [0] (fun s0 wx => ∃ t : Nat, s0 = .int .i64 t ∧ t ≤ s ∧ Hid (∀ u, t ≤ u → u < s → F (u + r) - F u = v1 - v2) ∧ Hid (∃ m, wx = W.drewN m)) (fun s0 _ => (intOf s0).toNat)
    case atStart => exact ⟨s, rfl, Nat.le_refl _, fun u h1 h2 => by omega, D5.out⟩
    case round =>
      obtain ⟨t, rfl, hts, hok, hdr⟩ := hrel
      obtain ⟨w6, rfl⟩ : ∃ u : World, u = wr := ⟨_, rfl⟩
      by_cases h0 : t = 0
      · have N0 : Hid (NormOf F t r (v1 - v2)) := Lib.hid (by
          have := normOf_found (s' := t) HPer.out hP1 hr1 hr2 HRR.out.1 HRR.out.2 hts (fun u h1 h2 => by rw [HV.out.1, HV.out.2]; exact hok.out u h1 h2) (.inl h0)
          rwa [HV.out.1, HV.out.2] at this)
        have ht0 : ¬ 0 < (t : Int) := by omega
        clear h0
        go_wp2_with fail
        go_meet
        exact ⟨t, rfl, hts, N0, hdr⟩
      · obtain ⟨k, rfl⟩ : ∃ k, t = k + 1 := ⟨t - 1, by omega⟩
        clear h0
        obtain ⟨v3, hv3⟩ : ∃ v, F (k + r) = v := ⟨_, rfl⟩
        obtain ⟨v4, hv4⟩ : ∃ v, F k = v := ⟨_, rfl⟩
        have b3 := HBD.out (k + r) (by omega)
        have b4 := HBD.out k (by omega)
        rw [hv3] at b3
        rw [hv4] at b4
        obtain ⟨b31, b32⟩ := b3
        obtain ⟨b41, b42⟩ := b4
        have HV3 := Lib.hid (And.intro hv3 hv4)
        clear hv3 hv4
        by_cases hd : v3 - v4 = v1 - v2
        · have hd' : (v3 - v4 == v1 - v2) = true := by simpa using hd
          have HD := Lib.hid hd
          clear hd
          go_wp2_with fail
          refine (HCW.out _ (k + r) v3 _ (by omega) (by omega) HV3.out.1 hdr.out).mono ?_
          rintro e w7 ⟨rfl, hd1⟩
          have D7 := Lib.hid (dr_trans hdr.out hd1)
          clear hd1
          go_wp2_with fail
          refine (HCW.out _ k v4 _ (by omega) (by omega) HV3.out.2 D7.out).mono ?_
          rintro e w8 ⟨rfl, hd2⟩
          have D8 := Lib.hid (dr_trans D7.out hd2)
          clear hd2
          go_wp2_with fail
          go_roundw
          case rel =>
            refine ⟨k, by go_num, by omega, fun u h1 h2 => ?_, D8.out⟩
            by_cases huk : u = k
            · subst huk; rw [HV3.out.1, HV3.out.2]; exact HD.out
            · exact hok.out u (by omega) h2
          case measure => simp [intOf]; try omega
        · have hd' : (v3 - v4 == v1 - v2) = false := by simpa using hd
          have N0 : Hid (NormOf F (k + 1) r (v1 - v2)) := Lib.hid (by
            have := normOf_found (s' := k + 1) HPer.out hP1 hr1 hr2 HRR.out.1 HRR.out.2 hts (fun u h1 h2 => by rw [HV.out.1, HV.out.2]; exact hok.out u h1 h2) (.inr (by rw [Nat.add_sub_cancel, HV3.out.1, HV3.out.2, HV.out.1, HV.out.2]; exact hd))
            rwa [HV.out.1, HV.out.2] at this)
          clear hd
          go_wp2_with fail
          refine (HCW.out _ (k + r) v3 _ (by omega) (by omega) HV3.out.1 hdr.out).mono ?_
          rintro e w7 ⟨rfl, hd1⟩
          have D7 := Lib.hid (dr_trans hdr.out hd1)
          clear hd1
          go_wp2_with fail
          refine (HCW.out _ k v4 _ (by omega) (by omega) HV3.out.2 D7.out).mono ?_
          rintro e w8 ⟨rfl, hd2⟩
          have D8 := Lib.hid (dr_trans D7.out hd2)
          clear hd2
          go_wp2_with fail
          go_meet
          exact ⟨k + 1, by go_num, hts, N0, D8⟩
  case rest =>
    obtain ⟨t, rfl, hts, HN, HD⟩ := hcut
    obtain ⟨w0, rfl⟩ : ∃ u : World, u = wc := ⟨_, rfl⟩
    have HBc : Hid (Below w.heap.size w w0) := Lib.hid (below_dr HB0.out HD.out)
    have HCc : Hid (Cur3 w0 w.heap.size (.slice none 0 0) (.int .i64 0) (.int .i64 0)) := Lib.hid (HC0.out.dr HD.out)
    by_cases hlong : 400 < t + r
    · have h4 : (400 : Int) < (t : Int) + (r : Int) := by omega
      have HE : Hid (¬ CanBe F) := Lib.hid (no_form_long HN.out hlong)
      have HB1 := Lib.hid (below_set3 (b := w.heap.size) HBc.out (Nat.le_refl _) (.slice none 0 0) (.int .i64 0) (.int .i64 0))
      obtain ⟨c0, c1, c2, f0, f1, f2⟩ := HCc.out
      clear hlong
      go_wp2_with fail
      exact bodyPost_ret (v := .tuple #[curV none 0 0 0 0, .int .i64 3]) (by simp [results, Try.results94, go_sem, c0, c1, c2]) rfl ⟨HB1.out, .inr ⟨rfl, HE.out⟩⟩
    · obtain ⟨m, hm⟩ : ∃ m, t + r = m := ⟨_, rfl⟩
      have hm4 : m ≤ 400 := by omega
      have h4 : ¬ (400 : Int) < (t : Int) + (r : Int) := by omega
      have hmi : (t : Int) + (r : Int) = (m : Int) := by omega
      have hmk2 := hmk m (by omega)
      have HM := Lib.hid hm
      have HT0 := Lib.hid (mk1_start HBc.out HCc.out F m r (v1 - v2))
      have HLB := Lib.hid HCc.out.lt
      obtain ⟨c0, c1, c2, f0, f1, f2⟩ := HCc.out
      clear hlong hm hmk
      go_wp2_with fail
      go_loopw [58] (fun s58 wx => ∃ k : Nat, s58 = .int .i64 k ∧ k ≤ m ∧ Hid (Mk1 w F (w0.heap.size + 1) w0.heap.size m k r (v1 - v2) wx)) (fun s58 _ => m - (intOf s58).toNat)
      case atStart => exact ⟨0, by go_num, Nat.zero_le _, HT0⟩
      case round =>
        obtain ⟨k, rfl, hk, KM⟩ := hrel
        obtain ⟨wk, rfl⟩ : ∃ u : World, u = wr := ⟨_, rfl⟩
        clear c0 c1 c2 f0 f1 f2
        obtain ⟨c0, c1, c2, f0, f1, f2⟩ := KM.out.box
        by_cases hlt : k < m
        · have hlt2 : (k : Int) < (m : Int) := by omega
          obtain ⟨v, hv⟩ : ∃ v, F k = v := ⟨_, rfl⟩
          have HV5 := Lib.hid hv
          obtain ⟨z0, z1⟩ := KM.out.row k hlt
          have HCK := Lib.hid (show ∀ (ti : Int) (t : Nat) (v : Int) (w' : World), ti = t → t < s + 2 * P → F t = v → (∃ m, w' = wk.drewN m) → Calls Try.prog fid (#[.int .i64 ti] ++ caps) w' (Drew (.int .i64 v) w') from
            fun ti t v w' h1 h2 h3 h4 => HCL.out ti t v w' h1 h2 h3 (below_dr KM.out.below h4))
          clear hv
          go_wp2_with fail
          go_region_with (first
            | (go_at_fn fid; (refine (HCK.out (k : Int) k v _ rfl (by omega) HV5.out ?_).mono ?_); (focus (first | exact ⟨1, rfl⟩ | exact ⟨0, rfl⟩)); (rintro e w1 ⟨rfl, md, rfl⟩)))
          all_goals go_wp2_with fail
          all_goals
            refine ⟨⟨k + 1, by go_num, by omega, ?_⟩, by simp [intOf]; omega⟩
            exact Lib.hid ((KM.out.drewN _).step (by omega) HLB.out hlt HV5.out)
        · obtain rfl : k = m := by omega
          have hlt2 : ¬ (k : Int) < (k : Int) := by omega
          have HRW := Lib.hid (KM.out.rowZ hm4 (fun u hu => HBD.out u (by have := HM.out; omega)))
          have hDb : In64 (v1 - v2) := ⟨by omega, by omega⟩
          cases hok : okC (firsts F k) r (v1 - v2) with
          | false =>
            have HOK := Lib.hid hok
            have HNG := Lib.hid (show ¬ CanBe F from no_form HN.out (by rw [HM.out]; intro g; rw [(okC_iff _ _ _).2 g] at hok; cases hok))
            clear hok
            go_wp2_with fail
            refine (valid_any (some ⟨w0.heap.size, 0, none⟩) k k (firsts F k) r (v1 - v2) ⟨by omega, by omega⟩ hDb false HOK.out _ HRW.out).mono ?_
            rintro e w9 ⟨rfl, hb9⟩
            have HB9 := Lib.hid (KM.out.zero hb9)
            clear c0 c1 c2 f0 f1 f2
            obtain ⟨c0, c1, c2, f0, f1, f2⟩ := KM.out.res.below hb9
            clear hb9
            go_wp2_with fail
            exact bodyPost_ret (v := .tuple #[curV none 0 0 0 0, .int .i64 3]) (by simp [results, Try.results94, go_sem, c0, c1, c2]) rfl ⟨HB9.out, .inr ⟨rfl, HNG.out⟩⟩
          | true =>
            have HOK := Lib.hid hok
            have HFo := Lib.hid (show Form (firsts F k) r (v1 - v2) F by
              have g := (okC_iff _ _ _).1 hok
              have hx := HM.out
              subst hx
              exact form_of HN.out g)
            clear hok
            go_wp2_with fail
            refine (valid_any (some ⟨w0.heap.size, 0, none⟩) k k (firsts F k) r (v1 - v2) ⟨by omega, by omega⟩ hDb true HOK.out _ HRW.out).mono ?_
            rintro e w9 ⟨rfl, hb9⟩
            have HB9 := Lib.hid (KM.out.done HLB.out hm4 (fun u hu => HBD.out u (by have := HM.out; omega)) hb9 HFo.out)
            have K2 := Lib.hid (KM.out.box.below hb9)
            clear c0 c1 c2 f0 f1 f2
            obtain ⟨c0, c1, c2, f0, f1, f2⟩ := KM.out.res.below hb9
            obtain ⟨d0, d1, d2, g0, g1, g2⟩ := K2.out
            clear hb9
            go_wp2_with fail
            exact bodyPost_ret (v := .tuple #[curV (some ⟨w0.heap.size, 0, none⟩) k k r (v1 - v2), .int .i64 0]) (by simp [results, Try.results94, go_sem, c0, c1, c2]) rfl HB9.out
end Go.Proofs.Ythljhddnfflpjaa
