/- Of the document's closure: guess. By the verifier's side. -/
import Derived.Test.YtjjaaknjdmijbaaQdRCl1
import Derived.BigRegion
namespace Go.Proofs.Ytjjaaknjdmijbaa
open Go.RowKit
set_option linter.unusedSimpArgs false
set_option linter.unusedVariables false

/-- The normal form of a raw curve, and its form. -/
def GivesL9 (E : Nat → Option Int) (w : World) (e : Ending) (w' : World) : Prop :=
  ∃ (a : Option Addr) (n cap : Nat) (zs : List Int) (p : Nat) (inc : Int), e = .returned (curV a n cap p inc) ∧ Below w.heap.size w w' ∧ RowZ w' a n cap zs ∧ (In64 p ∧ In64 inc) ∧ (Good zs p inc → EForm zs p inc E) ∧ (¬ Good zs p inc → ¬ ECan E) ∧ ∀ x, a = some x → w.heap.size ≤ x.block
theorem rleast_e9 (a : Option Addr) (n cap : Nat) (zs : List Int) (P : Nat) (inc : Int) {E : Nat → Option Int} (hE : RawE zs P inc E) (w : World) (h : RowZ w a n cap zs) :
    Calls Try.prog 104 #[curV a n cap P inc] w (GivesL9 E w) := by
  rcases hE with ⟨hr, he⟩ | ⟨hf, i, hi, hz, hj, he⟩
  · refine (rleast_raw a n cap zs P inc hr w h).mono ?_
    rintro e w1 ⟨a1, n1, cap1, s, r, c, rfl, hb, hr1, hn, h2, h3, hx⟩
    obtain ⟨k1, k2⟩ := raw_form hr he hn
    have hl := hr1.len
    rw [firsts_length] at hl
    have q1 := hn.start_le hr.per hr.p1
    have q2 := hn.per_le hr.per hr.p1
    have q3 := hr.few; have q4 := hr.p3; have q5 := hn.pos
    exact ⟨a1, n1, cap1, _, r, c, rfl, hb, hr1, ⟨⟨by omega, by omega⟩, by omega, by omega⟩, k1, k2, hx⟩
  · refine (rleast_rawinf a n cap zs P inc hf i hi hz hj w h).mono ?_
    rintro e w1 ⟨a1, n1, cap1, rfl, hb, hr1, hx⟩
    obtain ⟨k1, k2⟩ := raw_inf hi hz hj he
    have hl := hr1.len
    rw [List.length_take] at hl
    exact ⟨a1, n1, cap1, _, 1, 0, rfl, hb, hr1, ⟨⟨by omega, by omega⟩, by omega, by omega⟩, k1, k2, hx⟩

/-- From the greatest length on the list grows by the same in p ticks, or it is infinite. -/
def FitY (F : Nat → Int) (p : Nat) : Prop := F 639 = infV ∨ ∀ t, 400 ≤ t → t + p < 640 → F (t + p) = F t + (F (400 + p) - F 400)
def incY (F : Nat → Int) (p : Nat) : Int := if F 639 = infV then 0 else F (400 + p) - F 400
def GivesGuess9 (F : Nat → Int) (E : Nat → Nat → Option Int) (w : World) (e : Ending) (w' : World) : Prop :=
  Below w.heap.size w w' ∧ ((∃ p, 1 ≤ p ∧ p ≤ 120 ∧ FitY F p ∧ (∀ q, 1 ≤ q → q < p → ¬ FitY F q) ∧ ∃ (a : Option Addr) (n cap : Nat) (zs : List Int) (r : Nat) (inc : Int),
    e = .returned (.tuple #[curV a n cap r inc, .bool true]) ∧ RowZ w' a n cap zs ∧ (In64 r ∧ In64 inc) ∧ (Good zs r inc → EForm zs r inc (E p)) ∧ (¬ Good zs r inc → ¬ ECan (E p)) ∧ ∀ x, a = some x → w.heap.size ≤ x.block) ∨
    (e = .returned (.tuple #[curV none 0 0 0 0, .bool false]) ∧ ∀ p, 1 ≤ p → p ≤ 120 → ¬ FitY F p))

theorem firsts_take9 (F : Nat → Int) {m k : Nat} (h : m ≤ k) : (firsts F k).take m = firsts F m := list_ext_getD (by rw [firsts_length, List.length_take, firsts_length]; omega) fun i hi => by
  rw [List.length_take, firsts_length] at hi
  rw [getD_take (by omega), firsts_getD _ _ _ (by omega), firsts_getD _ _ _ (by omega)]
/-- While a period is looked for: the list, the result's box. -/
structure GS (w : World) (g c : Nat) (F : Nat → Int) (u : World) : Prop where
  row : RowZ u (some ⟨g, 0, none⟩) 640 c (firsts F 640)
  res : Cur3 u (w.heap.size + 1) (.slice none 0 0) (.int .i64 0) (.int .i64 0)
  below : Below w.heap.size w u
  far : w.heap.size + 2 ≤ g
theorem GS.call {w u v : World} {g c : Nat} {F : Nat → Int} (h : GS w g c F u) (hb : Below u.heap.size u v) : GS w g c F v := ⟨h.row.under hb, h.res.below hb, h.below.trans (hb.mono h.below.size), h.far⟩
theorem GS.cell {w u : World} {g c : Nat} {F : Nat → Int} (h : GS w g c F u) {i : Nat} (hi : i < 640) {v : Int} (hv : F i = v) : u.cell? ⟨g, i, none⟩ = some (.int .i64 v) := by
  obtain ⟨x, hx, hc⟩ := h.row.at i hi
  cases hx
  rw [firsts_getD _ _ _ hi, hv, show ((⟨g, 0, none⟩ : Addr).add i) = ⟨g, i, none⟩ by unfold Addr.add; split <;> simp_all] at hc
  exact hc

set_option maxRecDepth 100000 in
set_option maxHeartbeats 6400000 in
theorem rguess9 (a : Option Addr) (n cap : Nat) (zs : List Int) (p0 : Nat) (inc : Int) (g : Good zs p0 inc) (F : Nat → Int) (hF : encF (eClo zs p0 inc) = F) (E : Nat → Nat → Option Int)
    (hE : ∀ p, 1 ≤ p → p ≤ 120 → FitY F p → RawE (firsts F (400 + p)) p (incY F p) (E p)) (hfin : ¬ F 639 = infV → ∀ t, t < 640 → 0 ≤ F t ∧ F t ≤ 1125899906842624) (w : World) (h : RowZ w a n cap zs) :
    Calls Try.prog 113 #[curV a n cap p0 inc] w (GivesGuess9 F E w) := by
  have G0 := Lib.hid g
  have HF := Lib.hid hF
  have HE := Lib.hid hE
  have HFIN := Lib.hid hfin
  obtain ⟨W, hW⟩ : ∃ W, (w.alloc (.cells #[.slice a n cap, .int .i64 p0, .int .i64 inc] 24)).alloc (.cells #[.slice none 0 0, .int .i64 0, .int .i64 0] 24) = W := ⟨_, rfl⟩
  have hB : Below w.heap.size w W := by rw [← hW]; exact ((Below.refl _ _).alloc (Nat.le_refl _) _).alloc (by simp) _
  have HWS := Lib.hid (show W.heap.size = w.heap.size + 2 by rw [← hW]; simp)
  have K1 := Lib.hid (show Cur3 W w.heap.size (.slice a n cap) (.int .i64 p0) (.int .i64 inc) by rw [← hW]; exact (Cur3.new w _ _ _ _).alloc _)
  have KR := Lib.hid (show Cur3 W (w.heap.size + 1) (.slice none 0 0) (.int .i64 0) (.int .i64 0) by rw [← hW]; exact Cur3.new2 w _ _ _ _ _)
  have HR := Lib.hid (h.under hB)
  have HB := Lib.hid hB
  have HW := Lib.hid hW
  clear hB hW h g hF hE hfin
  go_enter Try.func113, Try.ntmps113
  go_upto_region 1 with fail
  try rw [HW.out]
  obtain ⟨c0, c1, c2, c3, c4, c5⟩ := K1.out
  go_wp2_with fail
  clear c0 c1 c2 c3 c4 c5
  refine (rvalues9 a n cap zs p0 inc G0.out 640 (by omega) (by omega) _ HR.out).mono ?_
  rintro e w3 ⟨gb, c, rfl, hb, hg, hr⟩
  have S0 := Lib.hid (show GS w gb c F w3 from ⟨by rw [← HF.out]; exact hr, KR.out.below hb, HB.out.trans (hb.mono HB.out.size), by have := HWS.out; omega⟩)
  clear hb hg hr K1 KR HR HB HW HF
  obtain ⟨fl, hfl⟩ : ∃ v, F 639 = v := ⟨_, rfl⟩
  obtain ⟨f4, hf4⟩ : ∃ v, F 400 = v := ⟨_, rfl⟩
  have HFL := Lib.hid (And.intro hfl hf4)
  clear hfl hf4
  go_wp2_with fail
  go_loopw [6] (fun s6 wx => ∃ p : Nat, s6 = .int .i64 p ∧ 1 ≤ p ∧ p ≤ 121 ∧ Hid (∀ q, 1 ≤ q → q < p → ¬ FitY F q) ∧ Hid (GS w gb c F wx)) (fun s6 _ => 121 - (intOf s6).toNat)
  case atStart => exact ⟨1, by go_num, by omega, by omega, fun q h1 h2 => by omega, S0⟩
  case round =>
    clear S0
    obtain ⟨p, rfl, hp1, hp2, HNO, S1⟩ := hrel
    obtain ⟨wk, rfl⟩ : ∃ u : World, u = wr := ⟨_, rfl⟩
    by_cases hle : p ≤ 120
    rotate_left
    · have hlei : ¬ (p : Int) ≤ 120 := by omega
      obtain ⟨r0, r1, r2, r3, r4, r5⟩ := S1.out.res
      have HP := Lib.hid (show GivesGuess9 F E w (.returned (.tuple #[curV none 0 0 0 0, .bool false])) (((wk.setCell ⟨w.heap.size + 1, 0, none⟩ (.slice none 0 0)).setCell ⟨w.heap.size + 1, 1, none⟩ (.int .i64 0)).setCell ⟨w.heap.size + 1, 2, none⟩ (.int .i64 0)) from
        ⟨below_set3 S1.out.below (by omega) _ _ _, .inr ⟨rfl, fun q h1 h2 => HNO.out q h1 (by omega)⟩⟩)
      go_wp2_with fail
      exact bodyPost_ret (v := .tuple #[curV none 0 0 0 0, .bool false]) (by simp [results, Try.results113, go_sem, r0, r1, r2]) rfl HP.out
    have hlei : (p : Int) ≤ 120 := by omega
    have hcl := S1.out.cell (i := 639) (by omega) HFL.out.1
    by_cases hinf : fl = 4611686018427387904
    · have tv : (fl != 4611686018427387904) = false := by simpa using hinf
      have hi : F 639 = infV := HFL.out.1.trans hinf
      have HFT := Lib.hid (show FitY F p from .inl hi)
      have HINC := Lib.hid (show incY F p = 0 from if_pos hi)
      have S2 := S1
      clear hi
      obtain ⟨m, hm⟩ : ∃ m, 400 + p = m := ⟨_, rfl⟩
      have hmi : 400 + (p : Int) = (m : Int) := by omega
      have hmw : IntKind.i64.wrap (m : Int) = (m : Int) := IntWalk.i64_in _ ⟨by omega, by omega⟩
      have hcap := S2.out.row.le
      have hmc : (m : Int) ≤ (c : Int) := by omega
      have hm0 : (0 : Int) ≤ (m : Int) := by omega
      have HRW := Lib.hid (show RawE (firsts F m) p 0 (E p) by rw [← HINC.out, ← hm]; exact HE.out p hp1 hle HFT.out)
      have RT := Lib.hid (show RowZ wk (some ⟨gb, 0, none⟩) m c (firsts F m) by
        have := S2.out.row.take m (by omega)
        rwa [firsts_take9 F (show m ≤ 640 by omega)] at this)
      clear hm
      go_wp2_with fail
      refine (rleast_e9 (some ⟨gb, 0, none⟩) m c (firsts F m) p 0 HRW.out _ RT.out).mono ?_
      rintro e v9 ⟨a9, n9, cap9, z9, p9, i9, rfl, hb, hr, h64, hgood, hno, hx⟩
      have S9 := Lib.hid (S2.out.call hb)
      have hne : ∀ x : Addr, a9 = some x → 1 ≤ n9 → x.block ≠ w.heap.size + 1 := fun x e _ => by have := hx x e; have := S2.out.res.lt; omega
      have HP := Lib.hid (show GivesGuess9 F E w (.returned (.tuple #[curV a9 n9 cap9 p9 i9, .bool true])) (((v9.setCell ⟨w.heap.size + 1, 0, none⟩ (.slice a9 n9 cap9)).setCell ⟨w.heap.size + 1, 1, none⟩ (.int .i64 p9)).setCell ⟨w.heap.size + 1, 2, none⟩ (.int .i64 i9)) from
        ⟨below_set3 S9.out.below (by omega) _ _ _, .inl ⟨p, hp1, hle, HFT.out, HNO.out, a9, n9, cap9, z9, p9, i9, rfl, ((hr.store hne _ _).store hne _ _).store hne _ _, h64, hgood, hno, fun x e => by have := hx x e; have := S2.out.res.lt; omega⟩⟩)
      obtain ⟨r0, r1, r2, r3, r4, r5⟩ := S9.out.res
      clear hb hr h64 hgood hno hx hne S2
      go_wp2_with fail
      exact bodyPost_ret (v := .tuple #[curV a9 n9 cap9 p9 i9, .bool true]) (by simp [results, Try.results113, go_sem, r0, r1, r2]) rfl HP.out
    · have tv : (fl != 4611686018427387904) = true := by simpa using hinf
      have hni : ¬ F 639 = infV := fun e => hinf (HFL.out.1.symm.trans e)
      have HBD := Lib.hid (HFIN.out hni)
      obtain ⟨m, hm⟩ : ∃ m, 400 + p = m := ⟨_, rfl⟩
      have hmi : 400 + (p : Int) = (m : Int) := by omega
      have hmw : IntKind.i64.wrap (m : Int) = (m : Int) := IntWalk.i64_in _ ⟨by omega, by omega⟩
      have hml : (m : Int) < 640 := by omega
      obtain ⟨fm, hfm⟩ : ∃ v, F m = v := ⟨_, rfl⟩
      obtain ⟨q, hq⟩ : ∃ q, fm - f4 = q := ⟨_, rfl⟩
      have HINC := Lib.hid (show incY F p = q by unfold incY; rw [if_neg hni, hm, hfm, HFL.out.2, hq])
      have HQ := Lib.hid (show FitY F p ↔ ∀ t, 400 ≤ t → t + p < 640 → F (t + p) = F t + q by
        have e : F (400 + p) - F 400 = q := by rw [hm, hfm, HFL.out.2, hq]
        unfold FitY
        rw [e]
        exact ⟨fun h => h.resolve_left hni, .inr⟩)
      have hqb : -1125899906842624 ≤ q ∧ q ≤ 1125899906842624 := by
        have h1 := HBD.out m (by omega); have h2 := HBD.out 400 (by omega)
        rw [hfm] at h1; rw [HFL.out.2] at h2; omega
      have hqw : IntKind.i64.wrap q = q := IntWalk.i64_in _ ⟨by omega, by omega⟩
      have cm := S1.out.cell (i := m) (by omega) hfm
      have c4 := S1.out.cell (i := 400) (by omega) HFL.out.2
      clear hni hfm hm
      go_upto_region 8 with fail
      go_quiet (fail)
      clear hcl cm c4 hmi hmw hml
      generalize hwd : wk.drewN _ = w4
      have S2 := Lib.hid (show GS w gb c F w4 from by rw [← hwd]; exact S1.out.call ((Below.refl _ _).drewN _))
      clear hwd S1
      go_wp2_with fail
      go_loopw [7, 9] (fun s7 s9 wx => ∃ (b : Bool) (t : Nat), s7 = .bool b ∧ s9 = .int .i64 t ∧ 400 ≤ t ∧ t + p ≤ 640 ∧ Hid (b = true ↔ ∀ u, 400 ≤ u → u < t → F (u + p) = F u + q) ∧ Hid (GS w gb c F wx)) (fun _ s9 _ => 640 - (intOf s9).toNat)
      case atStart => exact ⟨true, 400, rfl, by go_num, by omega, by omega, ⟨fun _ u h1 h2 => by omega, fun _ => rfl⟩, S2⟩
      case round =>
        clear S2
        obtain ⟨b, t, rfl, rfl, ht4, htp, HBT, S3⟩ := hrel
        obtain ⟨w5, rfl⟩ : ∃ u : World, u = wr := ⟨_, rfl⟩
        obtain ⟨d, hd⟩ : ∃ d, t + p = d := ⟨_, rfl⟩
        have hdi : (t : Int) + (p : Int) = (d : Int) := by omega
        have hdw : IntKind.i64.wrap (d : Int) = (d : Int) := IntWalk.i64_in _ ⟨by omega, by omega⟩
        by_cases hlt : d < 640
        rotate_left
        · have hdl : ¬ (d : Int) < 640 := by omega
          cases b with
          | false =>
            have HNF := Lib.hid (show ¬ FitY F p from fun h => by
              have := HBT.out.2 fun u h1 h2 => HQ.out.1 h u h1 (by omega)
              cases this)
            go_wp2_with fail
            go_roundw
            case rel => exact ⟨p + 1, by go_num, by omega, by omega, fun q h1 h2 => by
              by_cases e : q = p
              · subst e; exact HNF.out
              · exact HNO.out q h1 (by omega), S3⟩
            case measure => simp [intOf]; omega
          | true =>
            have HFT := Lib.hid (show FitY F p from HQ.out.2 fun u h1 h2 => HBT.out.1 rfl u h1 (by omega))
            have S2 := S3
            obtain ⟨m, hm⟩ : ∃ m, 400 + p = m := ⟨_, rfl⟩
            have hmi : 400 + (p : Int) = (m : Int) := by omega
            have hmw : IntKind.i64.wrap (m : Int) = (m : Int) := IntWalk.i64_in _ ⟨by omega, by omega⟩
            have hcap := S2.out.row.le
            have hmc : (m : Int) ≤ (c : Int) := by omega
            have hm0 : (0 : Int) ≤ (m : Int) := by omega
            have HRW := Lib.hid (show RawE (firsts F m) p q (E p) by rw [← HINC.out, ← hm]; exact HE.out p hp1 hle HFT.out)
            have RT := Lib.hid (show RowZ w5 (some ⟨gb, 0, none⟩) m c (firsts F m) by
              have := S2.out.row.take m (by omega)
              rwa [firsts_take9 F (show m ≤ 640 by omega)] at this)
            clear hm
            go_wp2_with fail
            refine (rleast_e9 (some ⟨gb, 0, none⟩) m c (firsts F m) p q HRW.out _ RT.out).mono ?_
            rintro e v9 ⟨a9, n9, cap9, z9, p9, i9, rfl, hb, hr, h64, hgood, hno, hx⟩
            have S9 := Lib.hid (S2.out.call hb)
            have hne : ∀ x : Addr, a9 = some x → 1 ≤ n9 → x.block ≠ w.heap.size + 1 := fun x e _ => by have := hx x e; have := S2.out.res.lt; omega
            have HP := Lib.hid (show GivesGuess9 F E w (.returned (.tuple #[curV a9 n9 cap9 p9 i9, .bool true])) (((v9.setCell ⟨w.heap.size + 1, 0, none⟩ (.slice a9 n9 cap9)).setCell ⟨w.heap.size + 1, 1, none⟩ (.int .i64 p9)).setCell ⟨w.heap.size + 1, 2, none⟩ (.int .i64 i9)) from
              ⟨below_set3 S9.out.below (by omega) _ _ _, .inl ⟨p, hp1, hle, HFT.out, HNO.out, a9, n9, cap9, z9, p9, i9, rfl, ((hr.store hne _ _).store hne _ _).store hne _ _, h64, hgood, hno, fun x e => by have := hx x e; have := S2.out.res.lt; omega⟩⟩)
            obtain ⟨r0, r1, r2, r3, r4, r5⟩ := S9.out.res
            clear hb hr h64 hgood hno hx hne S2
            go_wp2_with fail
            exact bodyPost_ret (v := .tuple #[curV a9 n9 cap9 p9 i9, .bool true]) (by simp [results, Try.results113, go_sem, r0, r1, r2]) rfl HP.out
        have hdl : (d : Int) < 640 := by omega
        have htl : (t : Int) < 640 := by omega
        obtain ⟨ft, hft⟩ : ∃ v, F t = v := ⟨_, rfl⟩
        obtain ⟨fd, hfd⟩ : ∃ v, F d = v := ⟨_, rfl⟩
        have ct := S3.out.cell (i := t) (by omega) hft
        have cd := S3.out.cell (i := d) (by omega) hfd
        have hsb : -4503599627370496 ≤ ft + q ∧ ft + q ≤ 4503599627370496 := by
          have h1 := HBD.out t (by omega); rw [hft] at h1; omega
        have hsw : IntKind.i64.wrap (ft + q) = ft + q := IntWalk.i64_in _ ⟨by omega, by omega⟩
        have HNX := Lib.hid (show (∀ u, 400 ≤ u → u < t + 1 → F (u + p) = F u + q) ↔ (∀ u, 400 ≤ u → u < t → F (u + p) = F u + q) ∧ fd = ft + q by
          constructor
          · exact fun h => ⟨fun u h1 h2 => h u h1 (by omega), by have := h t ht4 (by omega); rw [hd, hft, hfd] at this; exact this⟩
          · rintro ⟨h1, h2⟩ u u1 u2
            by_cases e : u = t
            · subst e; rw [hd, hft, hfd]; exact h2
            · exact h1 u u1 (by omega))
        clear hft hfd
        cases b with
        | false =>
          go_upto_region 12 with fail
          go_quiet (fail)
          clear ct cd
          generalize hwd : w5.drewN _ = w6
          have S4 := Lib.hid (show GS w gb c F w6 from by rw [← hwd]; exact S3.out.call ((Below.refl _ _).drewN _))
          clear hwd S3
          go_wp2_with fail
          go_roundw
          case rel => exact ⟨false, t + 1, rfl, by go_num, by omega, by omega, ⟨fun h => (by cases h), fun h => by have := HBT.out.2 (HNX.out.1 h).1; cases this⟩, S4⟩
          case measure => simp [intOf]; omega
        | true =>
          go_upto_region 12 with fail
          go_quiet (fail)
          clear ct cd
          generalize hwd : w5.drewN _ = w6
          have S4 := Lib.hid (show GS w gb c F w6 from by rw [← hwd]; exact S3.out.call ((Below.refl _ _).drewN _))
          clear hwd S3
          go_wp2_with fail
          go_roundw
          case rel => exact ⟨fd == ft + q, t + 1, by first | rfl | simp, by go_num, by omega, by omega, ⟨fun h => HNX.out.2 ⟨HBT.out.1 rfl, by simpa using h⟩, fun h => by have := (HNX.out.1 h).2; simpa using this⟩, S4⟩
          case measure => simp [intOf]; omega

end Go.Proofs.Ytjjaaknjdmijbaa
