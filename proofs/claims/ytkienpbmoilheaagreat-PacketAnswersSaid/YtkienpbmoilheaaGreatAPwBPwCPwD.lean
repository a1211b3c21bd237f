/- Contract of periodic.Curve, for whatever closure with one variable. By the verifier's side. -/
import Derived.Test.YtkienpbmoilheaaGreatAPwA
import Derived.Test.YtkienpbmoilheaaGreatACurSLongKeepC
import Derived.Deep.CutBlock
namespace Go.Proofs.YtkienpbmoilheaaGreat
open Go.RowKit
set_option linter.unusedSimpArgs false

/-- The curve in normal form with the values F is handed back, or the error that there is none. -/
def GivesForm (F : Nat → Int) (w : World) (e : Ending) (w' : World) : Prop :=
  Below w.heap.size w w' ∧ ((∃ (a : Option Addr) (n cap : Nat) (zs : List Int) (p : Nat) (inc : Int), e = .returned (.tuple #[curV a n cap p inc, .int .i64 0]) ∧ RowZ w' a n cap zs ∧ Form zs p inc F ∧ ∀ x, a = some x → w.heap.size ≤ x.block) ∨
    (e = .returned (.tuple #[curV none 0 0 0 0, .int .i64 3]) ∧ ¬ CanBe F))

/-- What stands while the list is made. -/
structure Mk1 (w : World) (F : Nat → Int) (S lb m k r : Nat) (D : Int) (wx : World) : Prop where
  box : Cur3 wx S (.slice (some ⟨lb, 0, none⟩) m m) (.int .i64 r) (.int .i64 D)
  res : Cur3 wx w.heap.size (.slice none 0 0) (.int .i64 0) (.int .i64 0)
  row : ∀ i, i < m → wx.cell? ⟨lb, i, none⟩ = some (.int .i64 (if i < k then F i else 0)) ∧ wx.frozen? ⟨lb, i, none⟩ = false
  below : Below w.heap.size w wx

theorem Mk1.drewN {w : World} {F : Nat → Int} {S lb m k r : Nat} {D : Int} {wx : World} (h : Mk1 w F S lb m k r D wx) (n : Nat) : Mk1 w F S lb m k r D (wx.drewN n) :=
  ⟨h.box.drewN n, h.res.drewN n, fun i hi => h.row i hi, h.below.drewN n⟩

theorem Mk1.step {w : World} {F : Nat → Int} {S lb m k r : Nat} {D : Int} {wx : World} (h : Mk1 w F S lb m k r D wx) (hS : S ≠ lb) (hw : w.heap.size < lb) (hk : k < m) {v : Int} (hv : F k = v) : Mk1 w F S lb m (k + 1) r D (wx.setCell ⟨lb, k, none⟩ (.int .i64 v)) :=
  ⟨h.box.other hS _ _, h.res.other (by omega) _ _, fun i hi => by
    refine ⟨?_, (World.frozen?_setCell _ _ _ _).trans (h.row i hi).2⟩
    by_cases he : i = k
    · subst he
      rw [World.cell?_setCell_same _ _ _ (h.row i hi).1, if_pos (Nat.lt_succ_self _), hv]
    · rw [World.cell?_setCell_other _ _ _ _ (show _ from fun hx => he (by cases hx; rfl)), (h.row i hi).1]
      by_cases hlt : i < k
      · rw [if_pos hlt, if_pos (by omega)]
      · rw [if_neg hlt, if_neg (by omega)], h.below.setCell (by show w.heap.size ≤ lb; omega) _⟩

theorem make_rowP (m : Nat) (hm : m ≤ 1000) (w : World) : (Instr.makeSlice 22 (.int .i64 (m : Int)) (.int .i64 (m : Int))).run Tryz.prog w = .ok (.slice (some ⟨w.heap.size, 0, none⟩) m m) (w.alloc (.cells (madeCells #[.int .i64 0] m) 3)) := by
  have := run_make_row' (P := Tryz.prog) 22 3 (.int .i64 0) 8 Tryz.underlying22 info_int rfl .i64 .i64 m (by omega) (by omega) w
  simpa using this

/-- The making of the list and of the curve in front of it. -/
theorem mk1_start {w w1 : World} (hB : Below w.heap.size w w1) (hC : Cur3 w1 w.heap.size (.slice none 0 0) (.int .i64 0) (.int .i64 0)) (F : Nat → Int) (m r : Nat) (D : Int) :
    Mk1 w F (w1.heap.size + 1) w1.heap.size m 0 r D ((w1.alloc (.cells (madeCells #[.int .i64 0] m) 3)).alloc (.cells #[.slice (some ⟨w1.heap.size, 0, none⟩) m m, .int .i64 r, .int .i64 D] 24)) := by
  have h1 := hB.size
  refine ⟨Cur3.new2 w1 _ _ _ _ _, (hC.alloc _).alloc _, fun i hi => ?_, (hB.alloc h1 _).alloc (by simp; omega) _⟩
  have h2 := made_cell w1 m i hi
  have h3 := made_frozen w1 m i
  rw [if_neg (Nat.not_lt_zero _)]
  exact ⟨(((Below.refl _ _).alloc (Nat.le_refl _) _).cell (lt_of_cell h2)).trans h2, (((Below.refl _ _).alloc (Nat.le_refl _) _).frozen (lt_of_cell h2)).trans h3⟩

theorem Mk1.rowZ {w : World} {F : Nat → Int} {S lb m r : Nat} {D : Int} {wx : World} (h : Mk1 w F S lb m m r D wx) (hm : m ≤ 400) (hb : ∀ t, t < m → 0 ≤ F t ∧ F t ≤ 4611686018427387904) : RowZ wx (some ⟨lb, 0, none⟩) m m (firsts F m) :=
  ⟨firsts_length _ _, Nat.le_refl _, by omega, by omega, fun i hi => ⟨_, rfl, by
    have ea : ((⟨lb, 0, none⟩ : Addr).add i) = ⟨lb, i, none⟩ := by unfold Addr.add; split <;> simp_all
    rw [ea, firsts_getD _ _ _ hi, (h.row i hi).1, if_pos hi]⟩, fun i hi => by rw [firsts_getD _ _ _ hi]; have := hb i hi; exact ⟨by omega, by omega⟩⟩

theorem Mk1.zero {w : World} {F : Nat → Int} {S lb m k r : Nat} {D : Int} {wx w' : World} (h : Mk1 w F S lb m k r D wx) (hb : Below wx.heap.size wx w') : Below w.heap.size w (((w'.setCell ⟨w.heap.size, 0, none⟩ (.slice none 0 0)).setCell ⟨w.heap.size, 1, none⟩ (.int .i64 0)).setCell ⟨w.heap.size, 2, none⟩ (.int .i64 0)) :=
  below_set3 (h.below.trans (hb.mono h.below.size)) (Nat.le_refl _) _ _ _

theorem Mk1.done {w : World} {F : Nat → Int} {S lb m r : Nat} {D : Int} {wx w' : World} (h : Mk1 w F S lb m m r D wx) (hlb : w.heap.size < lb) (hm : m ≤ 400) (hb : ∀ t, t < m → 0 ≤ F t ∧ F t ≤ 4611686018427387904) (hbw : Below wx.heap.size wx w') (hf : Form (firsts F m) r D F) :
    GivesForm F w (.returned (.tuple #[curV (some ⟨lb, 0, none⟩) m m r D, .int .i64 0])) (((w'.setCell ⟨w.heap.size, 0, none⟩ (.slice (some ⟨lb, 0, none⟩) m m)).setCell ⟨w.heap.size, 1, none⟩ (.int .i64 r)).setCell ⟨w.heap.size, 2, none⟩ (.int .i64 D)) := by
  have hx : ∀ x : Addr, (some ⟨lb, 0, none⟩ : Option Addr) = some x → 1 ≤ m → x.block ≠ w.heap.size := by
    intro x hx _; cases hx; show lb ≠ w.heap.size; omega
  exact ⟨below_set3 (h.below.trans (hbw.mono h.below.size)) (Nat.le_refl _) _ _ _, .inl ⟨_, m, m, _, r, D, rfl, ((((h.rowZ hm hb).under hbw).store hx _ _).store hx _ _).store hx _ _, hf, fun x hx => by cases hx; show w.heap.size ≤ lb; omega⟩⟩

set_option maxHeartbeats 3200000 in
theorem pcurve_any (fid : FuncId) (caps : Array Value) (F : Nat → Int) (s P : Nat) (c : Int) (hP1 : 1 ≤ P) (hP2 : P ≤ 120) (hs : s ≤ 1073742000) (hbd : ∀ t, t < s + 2 * P → 0 ≤ F t ∧ F t ≤ 4611686018427387904) (hper : Per F s P c) (w : World)
    (eg : ∀ (args : Array Value) (w : World), (callFunc fid args).run Tryz.prog w = .ok (.enter fid args) w) (hcl : ClosG fid caps (s + 2 * P) F w) :
    Calls Tryz.prog 59 #[.int .i64 s, .int .i64 P, .func (.func fid) #[] caps] w (GivesForm F w) := by
  have HBD := Lib.hid hbd
  have HCL := Lib.hid hcl
  have HPer := Lib.hid hper
  have hB0 : Below w.heap.size w (w.alloc (.cells #[.slice none 0 0, .int .i64 0, .int .i64 0] 24)) := (Below.refl _ _).alloc (Nat.le_refl _) _
  have HB0 := Lib.hid hB0
  have HC0 := Lib.hid (Cur3.new w (.slice none 0 0) (.int .i64 0) (.int .i64 0) 24)
  have hmk := make_rowP
  clear hbd hcl hper hB0
  go_enter Tryz.func59, Tryz.ntmps59
  go_wp2_with fail
  generalize w.alloc (.cells #[.slice none 0 0, .int .i64 0, .int .i64 0] 24) = W at HB0 HC0 ⊢
  refine (leastPeriod_p fid caps F s P hP1 hP2 hs HBD.out W eg (HCL.out.above HB0.out)).mono ?_
  rintro e w3 ⟨r, hr1, hr2, hr3, hr4, rfl, hd⟩
  have HRR := Lib.hid (And.intro hr3 hr4)
  have D3 := Lib.hid hd
  clear hr3 hr4 hd
  have HCW := Lib.hid (show ∀ (ti : Int) (t : Nat) (v : Int) (w' : World), ti = t → t < s + 2 * P → F t = v → (∃ m, w' = W.drewN m) → Calls Tryz.prog fid (#[.int .i64 ti] ++ caps) w' (Drew (.int .i64 v) w') from
    fun ti t v w' h1 h2 h3 h4 => HCL.out ti t v w' h1 h2 h3 (below_dr HB0.out h4))
  obtain ⟨v1, hv1⟩ : ∃ v, F (s + r) = v := ⟨_, rfl⟩
  obtain ⟨v2, hv2⟩ : ∃ v, F s = v := ⟨_, rfl⟩
  have b1 := HBD.out (s + r) (by omega)
  have b2 := HBD.out s (by omega)
  rw [hv1] at b1
  rw [hv2] at b2
  obtain ⟨b11, b12⟩ := b1
  obtain ⟨b21, b22⟩ := b2
  have HV := Lib.hid (And.intro hv1 hv2)
  clear hv1 hv2
  go_wp2_with fail
  refine (HCW.out _ (s + r) v1 _ (by omega) (by omega) HV.out.1 D3.out).mono ?_
  rintro e w4 ⟨rfl, hd⟩
  have D4 := Lib.hid (dr_trans D3.out hd)
  clear hd
  go_wp2_with fail
  refine (HCW.out _ s v2 _ rfl (by omega) HV.out.2 D4.out).mono ?_
  rintro e w5 ⟨rfl, hd⟩
  have D5 := Lib.hid (dr_trans D4.out hd)
  clear hd
  go_upto_block 0 with fail
  go_cut [0] (fun s0 wx => ∃ t : Nat, s0 = .int .i64 t ∧ t ≤ s ∧ Hid (NormOf F t r (v1 - v2)) ∧ Hid (∃ m, wx = W.drewN m))
  case first =>
    go_wp2_with fail
    go_loopw [0] (fun s0 wx => ∃ t : Nat, s0 = .int .i64 t ∧ t ≤ s ∧ Hid (∀ u, t ≤ u → u < s → F (u + r) - F u = v1 - v2) ∧ Hid (∃ m, wx = W.drewN m)) (fun s0 _ => (intOf s0).toNat)
    case atStart => exact ⟨s, rfl, Nat.le_refl _, fun u h1 h2 => by omega, D5.out⟩
    case round =>
      obtain ⟨t, rfl, hts, hok, hdr⟩ := hrel
      obtain ⟨w6, rfl⟩ : ∃ u : World, u = wr := ⟨_, rfl⟩
      by_cases h0 : t = 0
      · have N0 : Hid (NormOf F t r (v1 - v2)) := Lib.hid (by
          have := normOf_found (s' := t) HPer.out hP1 hr1 hr2 HRR.out.1 HRR.out.2 hts (fun u h1 h2 => by rw [HV.out.1, HV.out.2]; exact hok.out u h1 h2) (.inl h0)
          rwa [HV.out.1, HV.out.2] at this)
        have ht0 : ¬ 0 < (t : Int) := by omega
        clear h0
        go_wp2_with fail
        go_meet
        exact ⟨t, rfl, hts, N0, hdr⟩
      · obtain ⟨k, rfl⟩ : ∃ k, t = k + 1 := ⟨t - 1, by omega⟩
        clear h0
        obtain ⟨v3, hv3⟩ : ∃ v, F (k + r) = v := ⟨_, rfl⟩
        obtain ⟨v4, hv4⟩ : ∃ v, F k = v := ⟨_, rfl⟩
        have b3 := HBD.out (k + r) (by omega)
        have b4 := HBD.out k (by omega)
        rw [hv3] at b3
        rw [hv4] at b4
        obtain ⟨b31, b32⟩ := b3
        obtain ⟨b41, b42⟩ := b4
        have HV3 := Lib.hid (And.intro hv3 hv4)
        clear hv3 hv4
        by_cases hd : v3 - v4 = v1 - v2
        · have hd' : (v3 - v4 == v1 - v2) = true := by simpa using hd
          have HD := Lib.hid hd
          clear hd
          go_wp2_with fail
          refine (HCW.out _ (k + r) v3 _ (by omega) (by omega) HV3.out.1 hdr.out).mono ?_
          rintro e w7 ⟨rfl, hd1⟩
          have D7 := Lib.hid (dr_trans hdr.out hd1)
          clear hd1
          go_wp2_with fail
          refine (HCW.out _ k v4 _ (by omega) (by omega) HV3.out.2 D7.out).mono ?_
          rintro e w8 ⟨rfl, hd2⟩
          have D8 := Lib.hid (dr_trans D7.out hd2)
          clear hd2
          go_wp2_with fail
          go_roundw
          case rel =>
            refine ⟨k, by go_num, by omega, fun u h1 h2 => ?_, D8.out⟩
            by_cases huk : u = k
            · subst huk; rw [HV3.out.1, HV3.out.2]; exact HD.out
            · exact hok.out u (by omega) h2
          case measure => simp [intOf]; try omega
        · have hd' : (v3 - v4 == v1 - v2) = false := by simpa using hd
          have N0 : Hid (NormOf F (k + 1) r (v1 - v2)) := Lib.hid (by
            have := normOf_found (s' := k + 1) HPer.out hP1 hr1 hr2 HRR.out.1 HRR.out.2 hts (fun u h1 h2 => by rw [HV.out.1, HV.out.2]; exact hok.out u h1 h2) (.inr (by rw [Nat.add_sub_cancel, HV3.out.1, HV3.out.2, HV.out.1, HV.out.2]; exact hd))
            rwa [HV.out.1, HV.out.2] at this)
          clear hd
          go_wp2_with fail
          refine (HCW.out _ (k + r) v3 _ (by omega) (by omega) HV3.out.1 hdr.out).mono ?_
          rintro e w7 ⟨rfl, hd1⟩
          have D7 := Lib.hid (dr_trans hdr.out hd1)
          clear hd1
          go_wp2_with fail
          refine (HCW.out _ k v4 _ (by omega) (by omega) HV3.out.2 D7.out).mono ?_
          rintro e w8 ⟨rfl, hd2⟩
          have D8 := Lib.hid (dr_trans D7.out hd2)
          clear hd2
          go_wp2_with fail
          go_meet
          exact ⟨k + 1, by go_num, hts, N0, D8⟩
  case rest =>
    obtain ⟨t, rfl, hts, HN, HD⟩ := hcut
    obtain ⟨w0, rfl⟩ : ∃ u : World, u = wc := ⟨_, rfl⟩
    have HBc : Hid (Below w.heap.size w w0) := Lib.hid (below_dr HB0.out HD.out)
    have HCc : Hid (Cur3 w0 w.heap.size (.slice none 0 0) (.int .i64 0) (.int .i64 0)) := Lib.hid (HC0.out.dr HD.out)
    by_cases hlong : 400 < t + r
    · have h4 : (400 : Int) < (t : Int) + (r : Int) := by omega
      have HE : Hid (¬ CanBe F) := Lib.hid (no_form_long HN.out hlong)
      have HB1 := Lib.hid (below_set3 (b := w.heap.size) HBc.out (Nat.le_refl _) (.slice none 0 0) (.int .i64 0) (.int .i64 0))
      obtain ⟨c0, c1, c2, f0, f1, f2⟩ := HCc.out
      clear hlong
      go_wp2_with fail
      exact bodyPost_ret (v := .tuple #[curV none 0 0 0 0, .int .i64 3]) (by simp [results, Tryz.results59, go_sem, c0, c1, c2]) rfl ⟨HB1.out, .inr ⟨rfl, HE.out⟩⟩
    · obtain ⟨m, hm⟩ : ∃ m, t + r = m := ⟨_, rfl⟩
      have hm4 : m ≤ 400 := by omega
      have h4 : ¬ (400 : Int) < (t : Int) + (r : Int) := by omega
      have hmi : (t : Int) + (r : Int) = (m : Int) := by omega
      have hmk2 := hmk m (by omega)
      have HM := Lib.hid hm
      have HT0 := Lib.hid (mk1_start HBc.out HCc.out F m r (v1 - v2))
      have HLB := Lib.hid HCc.out.lt
      obtain ⟨c0, c1, c2, f0, f1, f2⟩ := HCc.out
      clear hlong hm hmk
      go_wp2_with fail
      go_loopw [58] (fun s58 wx => ∃ k : Nat, s58 = .int .i64 k ∧ k ≤ m ∧ Hid (Mk1 w F (w0.heap.size + 1) w0.heap.size m k r (v1 - v2) wx)) (fun s58 _ => m - (intOf s58).toNat)
      case atStart => exact ⟨0, by go_num, Nat.zero_le _, HT0⟩
      case round =>
        obtain ⟨k, rfl, hk, KM⟩ := hrel
        obtain ⟨wk, rfl⟩ : ∃ u : World, u = wr := ⟨_, rfl⟩
        clear c0 c1 c2 f0 f1 f2
        obtain ⟨c0, c1, c2, f0, f1, f2⟩ := KM.out.box
        by_cases hlt : k < m
        · have hlt2 : (k : Int) < (m : Int) := by omega
          obtain ⟨v, hv⟩ : ∃ v, F k = v := ⟨_, rfl⟩
          have HV5 := Lib.hid hv
          obtain ⟨z0, z1⟩ := KM.out.row k hlt
          have HCK := Lib.hid (show ∀ (ti : Int) (t : Nat) (v : Int) (w' : World), ti = t → t < s + 2 * P → F t = v → (∃ m, w' = wk.drewN m) → Calls Tryz.prog fid (#[.int .i64 ti] ++ caps) w' (Drew (.int .i64 v) w') from
            fun ti t v w' h1 h2 h3 h4 => HCL.out ti t v w' h1 h2 h3 (below_dr KM.out.below h4))
          clear hv
          go_wp2_with fail
          go_region_with (first
            | (go_at_fn fid; (refine (HCK.out (k : Int) k v _ rfl (by omega) HV5.out ?_).mono ?_); (focus (first | exact ⟨1, rfl⟩ | exact ⟨0, rfl⟩)); (rintro e w1 ⟨rfl, md, rfl⟩)))
          all_goals go_wp2_with fail
          all_goals
            refine ⟨⟨k + 1, by go_num, by omega, ?_⟩, by simp [intOf]; omega⟩
            exact Lib.hid ((KM.out.drewN _).step (by omega) HLB.out hlt HV5.out)
        · obtain rfl : k = m := by omega
          have hlt2 : ¬ (k : Int) < (k : Int) := by omega
          have HRW := Lib.hid (KM.out.rowZ hm4 (fun u hu => HBD.out u (by have := HM.out; omega)))
          have hDb : In64 (v1 - v2) := ⟨by omega, by omega⟩
          cases hok : okC (firsts F k) r (v1 - v2) with
          | false =>
            have HOK := Lib.hid hok
            have HNG := Lib.hid (show ¬ CanBe F from no_form HN.out (by rw [HM.out]; intro g; rw [(okC_iff _ _ _).2 g] at hok; cases hok))
            clear hok
            go_wp2_with fail
            refine (valid_any (some ⟨w0.heap.size, 0, none⟩) k k (firsts F k) r (v1 - v2) ⟨by omega, by omega⟩ hDb false HOK.out _ HRW.out).mono ?_
            rintro e w9 ⟨rfl, hb9⟩
            have HB9 := Lib.hid (KM.out.zero hb9)
            clear c0 c1 c2 f0 f1 f2
            obtain ⟨c0, c1, c2, f0, f1, f2⟩ := KM.out.res.below hb9
            clear hb9
            go_wp2_with fail
            exact bodyPost_ret (v := .tuple #[curV none 0 0 0 0, .int .i64 3]) (by simp [results, Tryz.results59, go_sem, c0, c1, c2]) rfl ⟨HB9.out, .inr ⟨rfl, HNG.out⟩⟩
          | true =>
            have HOK := Lib.hid hok
            have HFo := Lib.hid (show Form (firsts F k) r (v1 - v2) F by
              have g := (okC_iff _ _ _).1 hok
              have hx := HM.out
              subst hx
              exact form_of HN.out g)
            clear hok
            go_wp2_with fail
            refine (valid_any (some ⟨w0.heap.size, 0, none⟩) k k (firsts F k) r (v1 - v2) ⟨by omega, by omega⟩ hDb true HOK.out _ HRW.out).mono ?_
            rintro e w9 ⟨rfl, hb9⟩
            have HB9 := Lib.hid (KM.out.done HLB.out hm4 (fun u hu => HBD.out u (by have := HM.out; omega)) hb9 HFo.out)
            have K2 := Lib.hid (KM.out.box.below hb9)
            clear c0 c1 c2 f0 f1 f2
            obtain ⟨c0, c1, c2, f0, f1, f2⟩ := KM.out.res.below hb9
            obtain ⟨d0, d1, d2, g0, g1, g2⟩ := K2.out
            clear hb9
            go_wp2_with fail
            exact bodyPost_ret (v := .tuple #[curV (some ⟨w0.heap.size, 0, none⟩) k k r (v1 - v2), .int .i64 0]) (by simp [results, Tryz.results59, go_sem, c0, c1, c2]) rfl HB9.out
end Go.Proofs.YtkienpbmoilheaaGreat

namespace Go.Proofs.YtkienpbmoilheaaGreat
open Go.RowKit
set_option linter.unusedSimpArgs false

theorem Mid.bd {x : Int} (h : Mid x) : 0 ≤ x ∧ x ≤ 4611686018427387904 ∧ (x = 4611686018427387904 ∨ x ≤ 1125899906842624) := by
  unfold Mid infV at h; omega

set_option maxHeartbeats 400000 in
theorem pplus_any (a b : Int) (ha : Mid a) (hb : Mid b) (w : World) : Calls Tryz.prog 77 #[.int .i64 a, .int .i64 b] w fun e w' => e = .returned (.int .i64 (plI a b)) ∧ w' = w := by
  obtain ⟨a1, a2, a3⟩ := ha.bd
  obtain ⟨b1, b2, b3⟩ := hb.bd
  by_cases h1 : a = 4611686018427387904
  · subst h1
    have e : plI 4611686018427387904 b = 4611686018427387904 := plI_l b
    rw [e]
    clear ha hb
    go_enter Tryz.func77, Tryz.ntmps77
    go_wp2_with fail
    go_ret
    exact ⟨rfl, rfl⟩
  · by_cases h2 : b = 4611686018427387904
    · subst h2
      have e : plI a 4611686018427387904 = 4611686018427387904 := plI_r a
      rw [e]
      have t1 : (a == 4611686018427387904) = false := by simpa using h1
      clear ha hb h1
      go_enter Tryz.func77, Tryz.ntmps77
      go_wp2_with fail
      go_ret
      exact ⟨rfl, rfl⟩
    · have e : plI a b = a + b := plI_fin h1 h2
      rw [e]
      have t1 : (a == 4611686018427387904) = false := by simpa using h1
      have t2 : (b == 4611686018427387904) = false := by simpa using h2
      have a4 : a ≤ 1125899906842624 := by omega
      have b4 : b ≤ 1125899906842624 := by omega
      clear ha hb h1 h2 a3 b3 e
      go_enter Tryz.func77, Tryz.ntmps77
      go_wp2_with fail
      go_ret
      exact ⟨rfl, rfl⟩

set_option maxHeartbeats 400000 in
theorem greater_any (a b : Int) (w : World) : Calls Tryz.prog 58 #[.int .i64 a, .int .i64 b] w fun e w' => e = .returned (.int .i64 (max a b)) ∧ w' = w := by
  by_cases h : a ≤ b
  · have e : max a b = b := by omega
    rw [e]
    go_enter Tryz.func58, Tryz.ntmps58
    go_wp2_with fail
    all_goals go_ret
    all_goals exact ⟨ret_int (by omega), rfl⟩
  · have e : max a b = a := by omega
    rw [e]
    go_enter Tryz.func58, Tryz.ntmps58
    go_wp2_with fail
    all_goals go_ret
    all_goals exact ⟨ret_int (by omega), rfl⟩

set_option maxHeartbeats 800000 in
theorem growth_any (a : Option Addr) (n cap : Nat) (zs : List Int) (p : Nat) (inc : Int) (g : Good zs p inc) (L : Nat) (hL : L ≤ 120) (G : Int) (hG : growI zs p inc L = G) (w : World) (h : RowZ w a n cap zs) :
    Calls Tryz.prog 56 #[curV a n cap p inc, .int .i64 L] w (Says (.int .i64 G) w) := by
  have hB : Below w.heap.size w (w.alloc (.cells #[.slice a n cap, .int .i64 p, .int .i64 inc] 24)) := (Below.refl _ _).alloc (Nat.le_refl _) _
  have HBl := Lib.hid hB
  have H := Lib.hid (h.under hB)
  have KF := Lib.hid (Cur3.new w (.slice a n cap) (.int .i64 p) (.int .i64 inc) 24)
  have a1 := g.p1; have a2 := g.p2; have a3 := g.i0; have a4 := g.i1
  have hm := grow_mid g hL
  rw [hG] at hm
  by_cases hi : InfC zs
  · have HO := Lib.hid (finB_inf (p := p) (inc := inc) hi)
    obtain rfl : G = 4611686018427387904 := by rw [← hG, growI_inf hi]
    clear h hB g hG hi hm
    go_enter Tryz.func56, Tryz.ntmps56
    go_wp2_with fail
    refine (finite_any a n cap zs p inc ⟨by omega, by omega⟩ ⟨by omega, by omega⟩ false HO.out _ H.out).mono ?_
    rintro e w1 ⟨rfl, hb⟩
    have HB1 := Lib.hid (HBl.out.trans (hb.mono HBl.out.size))
    clear hb
    go_wp2_with fail
    go_ret
    exact ⟨rfl, HB1.out⟩
  · have HO := Lib.hid (finB_fin ((okC_iff zs p inc).2 g) hi)
    obtain ⟨q, hq⟩ : ∃ q, L / p = q := ⟨_, rfl⟩
    have hqL : q ≤ L := by rw [← hq]; exact Nat.div_le_self _ _
    rw [growI_fin hi, hq] at hG
    have r1 : (L : Int) / (p : Int) = (q : Int) := by rw [← hq, Int.natCast_ediv]
    have r1t : (L : Int).tdiv (p : Int) = (q : Int) := by rw [Int.tdiv_eq_ediv_of_nonneg (by omega)]; exact r1
    obtain ⟨m1, m2, _⟩ := hm.bd
    have r2 : IntKind.i64.wrap ((q : Int) * inc) = G := by rw [hG]; exact IntWalk.i64_in _ ⟨by omega, by omega⟩
    have r3 : ¬ p = 0 := by omega
    have r4 : ¬ (p : Int) = 0 := by omega
    clear h hB g hG hi hm hq
    go_enter Tryz.func56, Tryz.ntmps56
    go_wp2_with fail
    refine (finite_any a n cap zs p inc ⟨by omega, by omega⟩ ⟨by omega, by omega⟩ true HO.out _ H.out).mono ?_
    rintro e w1 ⟨rfl, hb⟩
    have HB1 := Lib.hid (HBl.out.trans (hb.mono HBl.out.size))
    obtain ⟨c0, c1, c2, f0, f1, f2⟩ := KF.out.below hb
    clear hb
    go_wp2_with fail
    go_quiet (fail)
    go_wp2_with fail
    go_ret
    exact ⟨rfl, HB1.out.drewN _⟩

/-! ## The closures -/

section
variable {fid : FuncId} {caps : Array Value} {T : Nat} {f : Nat → Int} {w : World} {bv bx : Nat} {x : Int}

set_option maxHeartbeats 800000 in
theorem lower1_any (hv : w.cell? ⟨bv, 0, none⟩ = some (.func (.func fid) #[] caps)) (hx : w.cell? ⟨bx, 0, none⟩ = some (.int .i64 x)) (eg : ∀ (args : Array Value) (w : World), (callFunc fid args).run Tryz.prog w = .ok (.enter fid args) w)
    (hcl : ClosG fid caps T f w) (hx0 : 0 ≤ x) (hx1 : x ≤ 1073741824) (hb : ∀ t, t < T → 0 ≤ f t ∧ f t ≤ 4611686018427387904) :
    ClosG 57 #[.pointer (some ⟨bv, 0, none⟩), .pointer (some ⟨bx, 0, none⟩)] T (fun t => if f t = infV then infV else max (f t - x) 0) w := by
  rintro ti t v w' rfl ht hv' hbw
  show Calls Tryz.prog 57 #[.int .i64 t, .pointer (some ⟨bv, 0, none⟩), .pointer (some ⟨bx, 0, none⟩)] w' (Drew (.int .i64 v) w')
  have c1 := (hbw.cell (lt_of_cell hv)).trans hv
  have c2 := (hbw.cell (lt_of_cell hx)).trans hx
  obtain ⟨y, hy⟩ : ∃ y, f t = y := ⟨_, rfl⟩
  have hB := hb t ht
  dsimp only at hv'
  rw [hy] at hB hv'
  have HC := Lib.hid (hcl.above hbw)
  have HY := Lib.hid hy
  obtain ⟨b1, b2⟩ := hB
  clear hv hx hcl hb hbw hy
  by_cases h1 : y = 4611686018427387904
  · subst h1
    rw [if_pos rfl] at hv'
    subst hv'
    go_enter Tryz.func57, Tryz.ntmps57
    go_wp2_with fail
    refine (HC.out _ t _ _ rfl ht HY.out (Below.refl _ _)).mono ?_
    rintro e w1 ⟨rfl, m, rfl⟩
    go_wp2_with fail
    go_ret
    exact ⟨rfl, m, rfl⟩
  · rw [if_neg h1] at hv'
    have t1 : (y != 4611686018427387904) = true := by simpa using h1
    have HV := Lib.hid hv'
    clear h1 hv'
    go_enter Tryz.func57, Tryz.ntmps57
    go_wp2_with fail
    refine (HC.out _ t _ _ rfl ht HY.out (Below.refl _ _)).mono ?_
    rintro e w1 ⟨rfl, m, rfl⟩
    go_wp2_with fail
    refine (greater_any (y - x) 0 _).mono ?_
    rintro e w2 ⟨rfl, rfl⟩
    rw [HV.out]
    go_wp2_with fail
    go_ret
    exact ⟨rfl, m, rfl⟩

set_option maxHeartbeats 800000 in
theorem later1_any {d : Nat} (hv : w.cell? ⟨bv, 0, none⟩ = some (.func (.func fid) #[] caps)) (hx : w.cell? ⟨bx, 0, none⟩ = some (.int .i64 d)) (eg : ∀ (args : Array Value) (w : World), (callFunc fid args).run Tryz.prog w = .ok (.enter fid args) w)
    (hcl : ClosG fid caps T f w) (hT : T ≤ 4194304) :
    ClosG 61 #[.pointer (some ⟨bx, 0, none⟩), .pointer (some ⟨bv, 0, none⟩)] T (fun t => if t < d then 0 else f (t - d)) w := by
  rintro ti t v w' rfl ht hv' hbw
  show Calls Tryz.prog 61 #[.int .i64 t, .pointer (some ⟨bx, 0, none⟩), .pointer (some ⟨bv, 0, none⟩)] w' (Drew (.int .i64 v) w')
  have c1 := (hbw.cell (lt_of_cell hv)).trans hv
  have c2 := (hbw.cell (lt_of_cell hx)).trans hx
  have HC := Lib.hid (hcl.above hbw)
  dsimp only at hv'
  clear hv hx hcl hbw
  by_cases hlt : t < d
  · rw [if_pos hlt] at hv'
    subst hv'
    have hl2 : (t : Int) < (d : Int) := by omega
    go_enter Tryz.func61, Tryz.ntmps61
    go_wp2_with fail
    go_ret
    exact ⟨rfl, 0, rfl⟩
  · rw [if_neg hlt] at hv'
    have HY := Lib.hid hv'
    have hl2 : ¬ (t : Int) < (d : Int) := by omega
    clear hv'
    go_enter Tryz.func61, Tryz.ntmps61
    go_wp2_with fail
    refine (HC.out _ (t - d) v _ (by omega) (by omega) HY.out (Below.refl _ _)).mono ?_
    rintro e w1 ⟨rfl, m, rfl⟩
    go_wp2_with fail
    go_ret
    exact ⟨rfl, m, rfl⟩

end

end Go.Proofs.YtkienpbmoilheaaGreat

namespace Go.Proofs.YtkienpbmoilheaaGreat
open Go.RowKit
set_option linter.unusedSimpArgs false

theorem ClosG.congr {fid : FuncId} {caps : Array Value} {T : Nat} {f F : Nat → Int} {w : World} (h : ClosG fid caps T f w) (he : ∀ t, t < T → f t = F t) : ClosG fid caps T F w :=
  fun ti t v w' h1 h2 h3 h4 => h ti t v w' h1 h2 ((he t h2).trans h3) h4

theorem form_post {w w1 w2 : World} {b : Nat} {F : Nat → Int} (hB : Below w.heap.size w w1) (hb1 : w.heap.size ≤ b) (hb2 : b < w1.heap.size) (h2 : Below w1.heap.size w1 w2) {a : Option Addr} {n cap : Nat} {zs : List Int} {p : Nat} {inc : Int} (hr : RowZ w2 a n cap zs)
    (hx : ∀ x, a = some x → w1.heap.size ≤ x.block) (hf : Form zs p inc F) :
    GivesForm F w (.returned (.tuple #[curV a n cap p inc, .int .i64 0])) (((w2.setCell ⟨b, 0, none⟩ (.slice a n cap)).setCell ⟨b, 1, none⟩ (.int .i64 p)).setCell ⟨b, 2, none⟩ (.int .i64 inc)) := by
  have hne : ∀ x : Addr, a = some x → 1 ≤ n → x.block ≠ b := fun x h _ => by have := hx x h; omega
  exact ⟨below_set3 (hB.trans (h2.mono hB.size)) hb1 _ _ _, .inl ⟨a, n, cap, zs, p, inc, rfl, ((hr.store hne _ _).store hne _ _).store hne _ _, hf, fun x h => by have := hx x h; have := hB.size; omega⟩⟩

theorem none_post {w w1 w2 : World} {b : Nat} {F : Nat → Int} (hB : Below w.heap.size w w1) (hb1 : w.heap.size ≤ b) (h2 : Below w1.heap.size w1 w2) (hno : ¬ CanBe F) :
    GivesForm F w (.returned (.tuple #[curV none 0 0 0 0, .int .i64 3])) (((w2.setCell ⟨b, 0, none⟩ (.slice none 0 0)).setCell ⟨b, 1, none⟩ (.int .i64 0)).setCell ⟨b, 2, none⟩ (.int .i64 0)) :=
  ⟨below_set3 (hB.trans (h2.mono hB.size)) hb1 _ _ _, .inr ⟨rfl, hno⟩⟩

set_option maxHeartbeats 1600000 in
theorem settled_s (fid : FuncId) (caps : Array Value) (F : Nat → Int) (si : Int) (s : Nat) (hsi : si = s) (hs2 : s ≤ 1000) (L : Nat) (G : Int) (hL1 : 1 ≤ L) (hL2 : L ≤ 120) (hm : ∀ t, t < s + 2 * L → Mid (F t)) (hG : Mid G) (hs : SettlingS F s L G) (w : World)
    (eg : ∀ (args : Array Value) (w : World), (callFunc fid args).run Tryz.prog w = .ok (.enter fid args) w) (hcl : ClosG fid caps (s + 2 * L) F w) :
    Calls Tryz.prog 55 #[.int .i64 si, .int .i64 L, .int .i64 G, .func (.func fid) #[] caps] w (GivesForm F w) := by
  subst hsi
  have HM := Lib.hid hm
  have HG := Lib.hid hG
  have HS := Lib.hid hs
  have HCL := Lib.hid hcl
  have hB0 : Below w.heap.size w (w.alloc (.cells #[.slice none 0 0, .int .i64 0, .int .i64 0] 24)) := (Below.refl _ _).alloc (Nat.le_refl _) _
  have HB0 := Lib.hid hB0
  have HC0 := Lib.hid (Cur3.new w (.slice none 0 0) (.int .i64 0) (.int .i64 0) 24)
  clear hm hG hs hcl hB0
  go_enter Tryz.func55, Tryz.ntmps55
  go_wp2_with fail
  generalize w.alloc (.cells #[.slice none 0 0, .int .i64 0, .int .i64 0] 24) = W at HB0 HC0 ⊢
  have HCW := Lib.hid (show ∀ (ti : Int) (t : Nat) (v : Int) (w' : World), ti = t → t < s + 2 * L → F t = v → (∃ m, w' = W.drewN m) → Calls Tryz.prog fid (#[.int .i64 ti] ++ caps) w' (Drew (.int .i64 v) w') from
    fun ti t v w' h1 h2 h3 h4 => HCL.out ti t v w' h1 h2 h3 (below_dr HB0.out h4))
  go_loopw [10] (fun s8 wx => ∃ t : Nat, s8 = .int .i64 t ∧ s ≤ t ∧ t ≤ s + L ∧ Hid (∀ u, s ≤ u → u < t → F (u + L) = plI (F u) G) ∧ Hid (∃ m, wx = W.drewN m)) (fun s8 _ => s + L - (intOf s8).toNat)
  case atStart => exact ⟨s, by go_num, Nat.le_refl _, by omega, fun u h1 h2 => by omega, 0, rfl⟩
  case round =>
    obtain ⟨t, rfl, ht1, ht2, hok, hdr⟩ := hrel
    obtain ⟨w1, rfl⟩ : ∃ u : World, u = wr := ⟨_, rfl⟩
    by_cases hlt : t < s + L
    · have hl2 : (t : Int) < s + (L : Int) := by omega
      obtain ⟨v1, hv1⟩ : ∃ v, F (t + L) = v := ⟨_, rfl⟩
      obtain ⟨v2, hv2⟩ : ∃ v, F t = v := ⟨_, rfl⟩
      have HV := Lib.hid (And.intro hv1 hv2)
      have HM2 := Lib.hid (show Mid v2 by rw [← hv2]; exact HM.out t (by omega))
      clear hv1 hv2
      by_cases hd : v1 = plI v2 G
      · have t1 : (v1 != plI v2 G) = false := by simpa using hd
        have HD := Lib.hid hd
        clear hd
        go_wp2_with fail
        refine (HCW.out _ (t + L) v1 _ (by omega) (by omega) HV.out.1 hdr.out).mono ?_
        rintro e w2 ⟨rfl, hd1⟩
        have D2 := Lib.hid (dr_trans hdr.out hd1)
        clear hd1
        go_wp2_with fail
        refine (HCW.out _ t v2 _ rfl (by omega) HV.out.2 D2.out).mono ?_
        rintro e w3 ⟨rfl, hd1⟩
        have D3 := Lib.hid (dr_trans D2.out hd1)
        clear hd1
        go_wp2_with fail
        refine (pplus_any v2 G HM2.out HG.out _).mono ?_
        rintro e w4 ⟨rfl, rfl⟩
        go_wp2_with fail
        go_roundw
        case rel =>
          refine ⟨t + 1, by go_num, by omega, by omega, fun u h1 h2 => ?_, D3⟩
          by_cases he : u = t
          · subst he; rw [HV.out.1, HV.out.2]; exact HD.out
          · exact hok.out u h1 (by omega)
        case measure => simp [intOf]; omega
      · have t1 : (v1 != plI v2 G) = true := by simpa using hd
        have HNO := Lib.hid (HS.out.2 fun hc => hd (by have := hc t ht1 hlt; rwa [HV.out.1, HV.out.2] at this))
        clear hd
        go_wp2_with fail
        refine (HCW.out _ (t + L) v1 _ (by omega) (by omega) HV.out.1 hdr.out).mono ?_
        rintro e w2 ⟨rfl, hd1⟩
        have D2 := Lib.hid (dr_trans hdr.out hd1)
        clear hd1
        go_wp2_with fail
        refine (HCW.out _ t v2 _ rfl (by omega) HV.out.2 D2.out).mono ?_
        rintro e w3 ⟨rfl, hd1⟩
        have D3 := Lib.hid (dr_trans D2.out hd1)
        clear hd1
        go_wp2_with fail
        refine (pplus_any v2 G HM2.out HG.out _).mono ?_
        rintro e w4 ⟨rfl, rfl⟩
        have HP := Lib.hid (none_post (b := w.heap.size) HB0.out (Nat.le_refl _) (below_dr (Below.refl _ _) D3.out) HNO.out)
        obtain ⟨c0, c1, c2, f0, f1, f2⟩ := HC0.out.dr D3.out
        go_wp2_with fail
        exact bodyPost_ret (v := .tuple #[curV none 0 0 0 0, .int .i64 3]) (by simp [results, Tryz.results55, go_sem, c0, c1, c2]) rfl HP.out
    · obtain rfl : t = s + L := by omega
      have hl2 : ¬ (((s + L : Nat) : Int) < s + (L : Int)) := by omega
      obtain ⟨c, hc⟩ := HS.out.1 (fun u h1 h2 => hok.out u h1 h2)
      have HPer := Lib.hid hc
      clear hc
      go_wp2_with fail
      refine (pcurve_any fid caps F s L c hL1 hL2 (by omega) (fun u hu => by have := (HM.out u (by omega)).bd; omega) HPer.out _ eg ((HCL.out.above (below_dr HB0.out hdr.out)))).mono ?_
      rintro e w2 ⟨hb, ⟨a, n, cap, zs, p, inc, rfl, hr, hf, hx⟩ | ⟨rfl, hno⟩⟩
      · have HP := Lib.hid (form_post (b := w.heap.size) (below_dr HB0.out hdr.out) (Nat.le_refl _) (HC0.out.dr hdr.out).lt hb hr hx hf)
        obtain ⟨c0, c1, c2, f0, f1, f2⟩ := (HC0.out.dr hdr.out).below hb
        clear hb hr hf hx
        go_wp2_with fail
        exact bodyPost_ret (v := .tuple #[curV a n cap p inc, .int .i64 0]) (by simp [results, Tryz.results55, go_sem, c0, c1, c2]) rfl HP.out
      · have HP := Lib.hid (none_post (b := w.heap.size) (below_dr HB0.out hdr.out) (Nat.le_refl _) hb hno)
        obtain ⟨c0, c1, c2, f0, f1, f2⟩ := (HC0.out.dr hdr.out).below hb
        clear hb hno
        go_wp2_with fail
        exact bodyPost_ret (v := .tuple #[curV none 0 0 0 0, .int .i64 3]) (by simp [results, Tryz.results55, go_sem, c0, c1, c2]) rfl HP.out

theorem settled_any (fid : FuncId) (caps : Array Value) (F : Nat → Int) (L : Nat) (G : Int) (hL1 : 1 ≤ L) (hL2 : L ≤ 120) (hm : ∀ t, t < 1000 → Mid (F t)) (hG : Mid G) (hs : Settling F L G) (w : World)
    (eg : ∀ (args : Array Value) (w : World), (callFunc fid args).run Tryz.prog w = .ok (.enter fid args) w) (hcl : ClosG fid caps 1000 F w) :
    Calls Tryz.prog 55 #[.int .i64 400, .int .i64 L, .int .i64 G, .func (.func fid) #[] caps] w (GivesForm F w) :=
  settled_s fid caps F 400 400 rfl (by omega) L G hL1 hL2 (fun t ht => hm t (by omega)) hG hs w eg (hcl.less (by omega))

theorem pcurve_i (fid : FuncId) (caps : Array Value) (F : Nat → Int) (si : Int) (s : Nat) (hsi : si = s) (P : Nat) (c : Int) (hP1 : 1 ≤ P) (hP2 : P ≤ 120) (hs : s ≤ 1000) (hbd : ∀ t, t < s + 2 * P → 0 ≤ F t ∧ F t ≤ 4611686018427387904) (hper : Per F s P c) (w : World)
    (eg : ∀ (args : Array Value) (w : World), (callFunc fid args).run Tryz.prog w = .ok (.enter fid args) w) (hcl : ClosG fid caps (s + 2 * P) F w) :
    Calls Tryz.prog 59 #[.int .i64 si, .int .i64 P, .func (.func fid) #[] caps] w (GivesForm F w) := by
  subst hsi; exact pcurve_any fid caps F s P c hP1 hP2 (by omega) hbd hper w eg hcl

/-- The normal form is handed back, with no error. -/
theorem checked_ok (a : Option Addr) (n cap : Nat) (zs : List Int) (p : Nat) (inc : Int) (g : Good zs p inc) (x lo hi : Int) (h1 : lo ≤ x) (h2 : x ≤ hi) (w : World) (h : RowZ w a n cap zs) :
    Calls Tryz.prog 53 #[curV a n cap p inc, .int .i64 x, .int .i64 lo, .int .i64 hi] w (GivesNorm2 zs p inc w) := by
  have hB : Below w.heap.size w ((w.alloc (.cells #[.slice a n cap, .int .i64 p, .int .i64 inc] 24)).alloc (.cells #[.slice none 0 0, .int .i64 0, .int .i64 0] 24)) :=
    ((Below.refl _ _).alloc (Nat.le_refl _) _).alloc (by simp) _
  have HBl := Lib.hid hB
  have H := Lib.hid (h.under hB)
  have G := Lib.hid g
  have K0 := Lib.hid ((Cur3.new w (.slice a n cap) (.int .i64 p) (.int .i64 inc) 24).alloc (.cells #[.slice none 0 0, .int .i64 0, .int .i64 0] 24))
  have K1 := Lib.hid (Cur3.new2 w (.slice none 0 0) (.int .i64 0) (.int .i64 0) 24 (.cells #[.slice a n cap, .int .i64 p, .int .i64 inc] 24))
  have hsz : ((w.alloc (.cells #[.slice a n cap, .int .i64 p, .int .i64 inc] 24)).alloc (.cells #[.slice none 0 0, .int .i64 0, .int .i64 0] 24)).heap.size = w.heap.size + 1 + 1 := by simp
  have HSZ := Lib.hid hsz
  clear h hB g hsz
  go_enter Tryz.func53, Tryz.ntmps53
  go_wp2_with fail
  refine (normal_ok a n cap zs p inc G.out _ H.out).mono ?_
  rintro e w1 ⟨a', n', cap', zs', p', inc', rfl, hb, hr, hn, hx⟩
  have hx2 : ∀ y, a' = some y → w.heap.size + 1 < y.block := fun y hy => by have := hx y hy; have := HSZ.out; omega
  have hne : ∀ y : Addr, a' = some y → 1 ≤ n' → y.block ≠ w.heap.size := fun y hy _ => by have := hx2 y hy; omega
  have HP := Lib.hid (norm_post2 (b := w.heap.size + 1) (below_set3 (b := w.heap.size) (HBl.out.trans (hb.mono HBl.out.size)) (Nat.le_refl _) (.slice a' n' cap') (.int .i64 p') (.int .i64 inc')) (Nat.le_succ _) (((hr.store hne _ _).store hne _ _).store hne _ _) hx2 p' inc' hn)
  obtain ⟨c0, c1, c2, f0, f1, f2⟩ := K0.out.below hb
  obtain ⟨d0, d1, d2, g0, g1, g2⟩ := K1.out.below hb
  clear hb hr hn hx hx2 hne
  go_wp2_with fail
  exact bodyPost_ret (v := .tuple #[curV a' n' cap' p' inc', .int .i64 0]) (by simp [results, Tryz.results53, go_sem, d0, d1, d2, c0, c1, c2]) rfl HP.out

end Go.Proofs.YtkienpbmoilheaaGreat
