/- The document's Serves of one class. By the verifier's side. -/
import Derived.Test.YtkienpbmoilheaaELnV
import Derived.Test.YtkienpbmoilheaaERTrC
import Derived.Test.YtkienpbmoilheaaERefA
namespace Go.Proofs.Ytkienpbmoilheaa
open Go.RowKit
set_option linter.unusedSimpArgs false
set_option linter.unusedVariables false

/-- What had arrived before a tick, of the class 0. -/
def arr0 (lq : List Pk) (s : Nat) : Int := sumG (bytT (s : Int)) (sel 0 lq)
/-- Whether a tick before k serves. -/
def srvB (A : Nat → Int) (C x : Int) (t : Nat) : Nat → Bool
  | 0 => false
  | s + 1 => srvB A C x t s || decide (A s + C * ((t : Int) - (s : Int)) ≤ x)
theorem srvB_of {A : Nat → Int} {C x : Int} {t s : Nat} (h : A s + C * ((t : Int) - (s : Int)) ≤ x) : ∀ k, s < k → srvB A C x t k = true
  | 0, hk => absurd hk (Nat.not_lt_zero _)
  | k + 1, hk => by
    unfold srvB
    by_cases e : s = k
    · subst e; simp [h]
    · rw [srvB_of h k (by omega)]; rfl
theorem arr0_bd {lq : List Pk} (hv : vcode lq = 0) (s : Nat) : 0 ≤ arr0 lq s ∧ arr0 lq s ≤ 90000 := part_bd hv 0 (s : Int)

set_option maxRecDepth 100000 in
set_option maxHeartbeats 3200000 in
theorem serves16 (a : Option Addr) (n cap : Nat) (lq : List Pk) (hv : vcode lq = 0) (v : Value) (nd T : Nat) (hT0 : 1 ≤ T) (hT : T ≤ 300) (Dn : Nat → Int) (Sn : Nat → Nat → Int) (af : Option Addr) (cf : Nat) (C : Int) (hC : 1 ≤ C ∧ C ≤ 4000)
    (hs : ∀ t, t ≤ T → ∃ s, s ≤ t ∧ arr0 lq s + C * ((t : Int) - (s : Int)) ≤ Sn 0 t) (w : World) (hp : PkR w a n cap lq) (hr : RunR w v nd 1 (T + 1) Dn Sn) (hf : RowZ w af 1 cf [0]) :
    Calls Try.prog 90 #[.slice a n cap, v, .int .i64 0, curV af 1 cf 1 C] w (Says (.bool true) w) := by
  obtain ⟨da, dc, S, off, rfl, _, hrow⟩ := hr.ex
  obtain ⟨xr, kr, gr, zr, Br, fr, rfl⟩ := hrow 0 (by omega)
  have hsb := hr.sb 0 (by omega)
  have HSB := Lib.hid hsb
  have HS := Lib.hid hs
  have HP := Lib.hid hp
  have HF := Lib.hid hf
  have HV := Lib.hid hv
  have HZ := Lib.hid zr
  have hcl := zr.le
  have hcm := zr.cm
  rw [Nat.add_zero] at gr
  have HG := Lib.hid gr
  clear hr hrow hsb hs hp hf hv zr gr
  go_enter Try.func90, Try.ntmps90
  go_upto_region 1 with fail
  obtain ⟨w1, hw1⟩ : ∃ V, w.alloc (.cells #[.slice da nd dc, .slice (some ⟨S, off, none⟩) 1 1] 91) = V := ⟨_, rfl⟩
  have hb1 : Below w.heap.size w w1 := by rw [← hw1]; exact (Below.refl _ _).alloc (Nat.le_refl _) _
  have hQ1 : TwoR w1 w.heap.size (.slice da nd dc) (.slice (some ⟨S, off, none⟩) 1 1) := by rw [← hw1]; exact ⟨_, World.alloc_heap_new w _⟩
  have hsz1 : w1.heap.size = w.heap.size + 1 := by rw [← hw1]; simp
  rw [hw1]
  obtain ⟨w2, hw2⟩ : ∃ V, w1.alloc (.cells #[.slice af 1 cf, .int .i64 1, .int .i64 C] 24) = V := ⟨_, rfl⟩
  have hb2 : Below w1.heap.size w1 w2 := by rw [← hw2]; exact (Below.refl _ _).alloc (Nat.le_refl _) _
  have hK2 : Cur3 w2 w1.heap.size (.slice af 1 cf) (.int .i64 1) (.int .i64 C) := by rw [← hw2]; exact Cur3.new w1 _ _ _ _
  rw [hsz1] at hK2
  have HB2 := Lib.hid (hb1.trans (hb2.mono hb1.size))
  have HX2 := Lib.hid (And.intro (hQ1.under hb2) hK2)
  rw [hw2]
  clear hw1 hw2 hb1 hb2 hQ1 hK2 hsz1
  obtain ⟨b1, hbx⟩ : ∃ m, w.heap.size = m := ⟨_, rfl⟩
  have HBX := Lib.hid hbx
  rw [hbx] at HX2 ⊢
  clear hbx
  have HCELL := Lib.hid (show ∀ u, Below w2.heap.size w2 u → (u.cell? ⟨b1, 1, none⟩ = some (.slice (some ⟨S, off, none⟩) 1 1) ∧ u.cell? ⟨b1 + 1, 0, none⟩ = some (.slice af 1 cf) ∧ u.cell? ⟨b1 + 1, 1, none⟩ = some (.int .i64 1) ∧ u.cell? ⟨b1 + 1, 2, none⟩ = some (.int .i64 C) ∧ u.cell? ⟨S, off, none⟩ = some (.slice (some ⟨Br, fr, none⟩) (T + 1) kr)) from fun u hu => by
    obtain ⟨_, x1⟩ := (HX2.out.1.under hu).cells
    obtain ⟨k0, k1, k2, _, _, _⟩ := HX2.out.2.below hu
    exact ⟨x1, k0, k1, k2, ((HB2.out.trans (hu.mono HB2.out.size)).cell (lt_of_cell HG.out)).trans HG.out⟩)
  obtain ⟨x1, k0, k1, k2, g1⟩ := HCELL.out w2 (Below.refl _ _)
  have hwn : IntKind.i64.wrap (((T + 1 : Nat) : Int) - 1) = (T : Int) := by rw [show ((T + 1 : Nat) : Int) - 1 = (T : Int) by omega]; exact IntWalk.i64_in _ ⟨by omega, by omega⟩
  have hwn' : IntKind.i64.wrap ((T : Int) + 1 - 1) = (T : Int) := by rw [show (T : Int) + 1 - 1 = (T : Int) by omega]; exact IntWalk.i64_in _ ⟨by omega, by omega⟩
  have hmx : (if (0 : Int) < (T : Int) then (T : Int) else 0) = (T : Int) := by split <;> omega
  have hmx2 : (if (T : Int) < 0 then 0 else (T : Int)) = (T : Int) := by split <;> omega
  have HCUM := Lib.hid (show cumC 0 (T : Int) lq = 0 ∧ cumL 0 (T : Int) lq = sumsL 0 (T + 1) lq from by
    have hc : cumC 0 (T : Int) lq = 0 := by unfold cumC; rw [if_pos HV.out, if_neg (by omega)]
    exact ⟨hc, by unfold cumL; rw [if_pos hc, Int.toNat_natCast]⟩)
  have hTp : (0 : Int) < (T : Int) := by omega
  have hTq : ¬ (T : Int) < 0 := by omega
  have hTr : ¬ (T : Int) ≤ 0 := by omega
  have hcu := rcumulative13 a n cap lq 0 (T : Int) 0 HCUM.out.1 (sumsL 0 (T + 1) lq) HCUM.out.2 w2 (HP.out.under HB2.out)
  have HCU := Lib.hid hcu
  clear hcu
  go_wp2_with fail
  refine HCU.out.mono ?_
  rintro e w3 ⟨ac, nc, cc, rfl, hb3, hz3, _⟩
  obtain rfl : nc = T + 1 := by rw [← hz3.len]; exact sumsL_len _ _ _
  have HB3 := Lib.hid hb3
  have HZ3 := Lib.hid hz3
  clear hb3 hz3 x1 k0 k1 k2 g1 HCU
  have HA := Lib.hid (fun s => arr0_bd (lq := lq) HV.out s)
  have HAT := Lib.hid (at_line C)
  have HG1 := Lib.hid (good_line hC.1 hC.2)
  clear hwn hwn' hmx hmx2
  go_wp2_with fail
  go_loopw [12] (fun vi wx => ∃ t : Nat, vi = .int .i64 t ∧ t ≤ T + 1 ∧ Hid (Below w3.heap.size w3 wx)) (fun vi _ => T + 1 - (intOf vi).toNat)
  case atStart => exact ⟨0, by go_num, Nat.zero_le _, Lib.hid (Below.refl _ _)⟩
  case round =>
    obtain ⟨t, rfl, ht, HT⟩ := hrel
    obtain ⟨wt, rfl⟩ : ∃ u : World, u = wr := ⟨_, rfl⟩
    by_cases hlt : t ≤ T
    · have hlI : (t : Int) ≤ (T : Int) := by omega
      obtain ⟨X, hX⟩ : ∃ x, Sn 0 t = x := ⟨_, rfl⟩
      have HX := Lib.hid (show srvB (arr0 lq) C X t (t + 1) = true from by
        obtain ⟨s, h1, h2⟩ := HS.out t hlt
        rw [hX] at h2
        exact srvB_of h2 (t + 1) (by omega))
      have hXb := HSB.out t (by omega)
      rw [hX] at hXb
      obtain ⟨yr, z, hyr, hcr, _, hzr, _⟩ := row_get16 (HZ.out) (show t < T + 1 by omega)
      rw [valsF_at _ (by omega), hX] at hzr
      cases hyr
      subst hzr
      rw [WideShapes.add_plain] at hcr
      have HCR := Lib.hid hcr
      clear hcr hX
      go_wp2_with fail
      go_loopw [14, 13] (fun s14 s13 wx => ∃ s : Nat, s14 = .int .i64 s ∧ s13 = .bool (srvB (arr0 lq) C X t s) ∧ s ≤ t + 1 ∧ Hid (Below w3.heap.size w3 wx)) (fun s14 _ _ => t + 1 - (intOf s14).toNat)
      case atStart => exact ⟨0, by go_num, rfl, Nat.zero_le _, HT⟩
      case round =>
        obtain ⟨s, rfl, rfl, hs, HW⟩ := hrel
        obtain ⟨ws, rfl⟩ : ∃ u : World, u = wr := ⟨_, rfl⟩
        by_cases hls : s ≤ t
        · have hlsI : (s : Int) ≤ (t : Int) := by omega
          obtain ⟨x1, k0, k1, k2, g1⟩ := HCELL.out ws (HB3.out.trans (HW.out.mono HB3.out.size))
          have hwd : IntKind.i64.wrap ((t : Int) - (s : Int)) = (t : Int) - (s : Int) := IntWalk.i64_in _ ⟨by omega, by omega⟩
          obtain ⟨vv, hvv⟩ : ∃ vv, C * ((t : Int) - (s : Int)) = vv := ⟨_, rfl⟩
          have HVV := Lib.hid hvv
          have hvb : 0 ≤ vv ∧ vv ≤ 4000 * 300 := by
            rw [← hvv]
            have m1 : C * ((t : Int) - (s : Int)) ≤ 4000 * 300 := Int.mul_le_mul hC.2 (by omega) (by omega) (by omega)
            exact ⟨Int.mul_nonneg (by omega) (by omega), m1⟩
          clear hvv
          go_wp2_with fail
          refine (rat_at af 1 cf [0] 1 C HG1.out ((t : Int) - (s : Int)) (t - s) (by omega) (by omega) vv (by rw [HAT.out, ← HVV.out]; congr 1; omega) _ (HF.out.under (HB2.out.trans ((HB3.out.trans (HW.out.mono HB3.out.size)).mono HB2.out.size)))).mono ?_
          rintro e u ⟨rfl, hbu⟩
          have HU := Lib.hid (HW.out.trans (hbu.mono HW.out.size))
          clear hbu x1 k0 k1 k2 g1
          obtain ⟨x1, k0, k1, k2, g1⟩ := HCELL.out u (HB3.out.trans (HU.out.mono HB3.out.size))
          have cr := ((HB2.out.trans ((HB3.out.trans (HU.out.mono HB3.out.size)).mono HB2.out.size)).cell (lt_of_cell HCR.out)).trans HCR.out
          obtain ⟨yc, zc, hyc, hcc, _, hzc, _⟩ := row_get16 (HZ3.out.under HU.out) (show s < T + 1 by omega)
          rw [sumsL_at _ _ _ (by omega)] at hzc
          subst hyc
          have hab := HA.out s
          have hzc' : arr0 lq s = zc := hzc
          rw [hzc'] at hab
          have hwa : IntKind.i64.wrap (zc + vv) = zc + vv := IntWalk.i64_in _ ⟨by omega, by omega⟩
          have HST := Lib.hid (show srvB (arr0 lq) C X t (s + 1) = (srvB (arr0 lq) C X t s || decide (zc + vv ≤ X)) from by
            show (srvB (arr0 lq) C X t s || decide (arr0 lq s + C * ((t : Int) - (s : Int)) ≤ X)) = _
            rw [hzc', HVV.out])
          clear hzc hzc'
          obtain ⟨b, hb⟩ : ∃ b, srvB (arr0 lq) C X t s = b := ⟨_, rfl⟩
          rw [hb] at HST ⊢
          clear hb
          have hvi : (vv != 4611686018427387904) = true := by simp; omega
          have hts : (t : Int) < ((T : Int) + 1) := by omega
          have hss : (s : Int) < ((T : Int) + 1) := by omega
          go_upto_region 15 with fail
          cases b
          case true =>
            go_quiet (fail)
            go_wp2_with fail
            go_roundw
            case rel => exact ⟨s + 1, by go_num, by rw [HST.out]; rfl, by omega, Lib.hid (HU.out.drewN _)⟩
            case measure => first | (simp [intOf]; done) | (simp [intOf]; omega)
          case false =>
            by_cases hle : zc + vv ≤ X
            · have hge : X ≥ zc + vv := hle
              have HL := Lib.hid hle
              clear hle
              go_quiet (fail)
              go_wp2_with fail
              go_roundw
              case rel => exact ⟨s + 1, by go_num, by rw [HST.out, decide_eq_true HL.out]; rfl, by omega, Lib.hid (HU.out.drewN _)⟩
              case measure => first | (simp [intOf]; done) | (simp [intOf]; omega)
            · have hge : ¬ X ≥ zc + vv := hle
              have HL := Lib.hid hle
              clear hle
              go_quiet (fail)
              go_wp2_with fail
              go_roundw
              case rel => exact ⟨s + 1, by go_num, by rw [HST.out, decide_eq_false HL.out]; rfl, by omega, Lib.hid (HU.out.drewN _)⟩
              case measure => first | (simp [intOf]; done) | (simp [intOf]; omega)
        · obtain rfl : s = t + 1 := by omega
          have hlsI : ¬ (((t + 1 : Nat) : Int)) ≤ (t : Int) := by omega
          have hlsI' : ¬ ((t : Int) + 1) ≤ (t : Int) := by omega
          rw [HX.out]
          go_wp2_with fail
          go_roundw
          case rel => exact ⟨t + 1, by go_num, by omega, HW⟩
          case measure => first | (simp [intOf]; done) | (simp [intOf]; omega)
    · obtain rfl : t = T + 1 := by omega
      have hlI : ¬ (((T + 1 : Nat) : Int)) ≤ (T : Int) := by omega
      have hlI' : ¬ ((T : Int) + 1) ≤ (T : Int) := by omega
      go_wp2_with fail
      go_ret
      exact ⟨rfl, HB2.out.trans ((HB3.out.trans (HT.out.mono HB3.out.size)).mono HB2.out.size)⟩
end Go.Proofs.Ytkienpbmoilheaa

namespace Go.Proofs.Ytkienpbmoilheaa
open Go.RowKit
set_option linter.unusedSimpArgs false
set_option linter.unusedVariables false

set_option maxRecDepth 100000 in
set_option maxHeartbeats 3200000 in
theorem busy16 (a : Option Addr) (n cap : Nat) (lq : List Pk) (hv : vcode lq = 0) (v : Value) (nd T : Nat) (hT0 : 1 ≤ T) (hT : T ≤ 300) (Dn : Nat → Int) (Sn : Nat → Nat → Int) (af : Option Addr) (cf : Nat) (C : Int) (hC : 1 ≤ C ∧ C ≤ 4000)
    (hs : ∀ s t : Nat, s < t → t ≤ T → (∀ u : Nat, s < u → u ≤ t → Sn 0 u < arr0 lq u) → C * ((t : Int) - (s : Int)) ≤ Sn 0 t - Sn 0 s) (w : World) (hp : PkR w a n cap lq) (hr : RunR w v nd 1 (T + 1) Dn Sn) (hf : RowZ w af 1 cf [0]) :
    Calls Try.prog 92 #[.slice a n cap, v, .int .i64 0, curV af 1 cf 1 C] w (Says (.bool true) w) := by
  obtain ⟨da, dc, S, off, rfl, _, hrow⟩ := hr.ex
  obtain ⟨xr, kr, gr, zr, Br, fr, rfl⟩ := hrow 0 (by omega)
  have hsb := hr.sb 0 (by omega)
  have HSB := Lib.hid hsb
  have HS := Lib.hid hs
  have HP := Lib.hid hp
  have HF := Lib.hid hf
  have HV := Lib.hid hv
  have HZ := Lib.hid zr
  have hcl := zr.le
  have hcm := zr.cm
  rw [Nat.add_zero] at gr
  have HG := Lib.hid gr
  clear hr hrow hsb hs hp hf hv zr gr
  go_enter Try.func92, Try.ntmps92
  go_upto_region 1 with fail
  obtain ⟨w1, hw1⟩ : ∃ V, w.alloc (.cells #[.slice da nd dc, .slice (some ⟨S, off, none⟩) 1 1] 91) = V := ⟨_, rfl⟩
  have hb1 : Below w.heap.size w w1 := by rw [← hw1]; exact (Below.refl _ _).alloc (Nat.le_refl _) _
  have hQ1 : TwoR w1 w.heap.size (.slice da nd dc) (.slice (some ⟨S, off, none⟩) 1 1) := by rw [← hw1]; exact ⟨_, World.alloc_heap_new w _⟩
  have hsz1 : w1.heap.size = w.heap.size + 1 := by rw [← hw1]; simp
  rw [hw1]
  obtain ⟨w2, hw2⟩ : ∃ V, w1.alloc (.cells #[.slice af 1 cf, .int .i64 1, .int .i64 C] 24) = V := ⟨_, rfl⟩
  have hb2 : Below w1.heap.size w1 w2 := by rw [← hw2]; exact (Below.refl _ _).alloc (Nat.le_refl _) _
  have hK2 : Cur3 w2 w1.heap.size (.slice af 1 cf) (.int .i64 1) (.int .i64 C) := by rw [← hw2]; exact Cur3.new w1 _ _ _ _
  rw [hsz1] at hK2
  have HB2 := Lib.hid (hb1.trans (hb2.mono hb1.size))
  have HX2 := Lib.hid (And.intro (hQ1.under hb2) hK2)
  rw [hw2]
  clear hw1 hw2 hb1 hb2 hQ1 hK2 hsz1
  obtain ⟨b1, hbx⟩ : ∃ m, w.heap.size = m := ⟨_, rfl⟩
  have HBX := Lib.hid hbx
  rw [hbx] at HX2 ⊢
  clear hbx
  have HCELL := Lib.hid (show ∀ u, Below w2.heap.size w2 u → (u.cell? ⟨b1, 1, none⟩ = some (.slice (some ⟨S, off, none⟩) 1 1) ∧ u.cell? ⟨b1 + 1, 0, none⟩ = some (.slice af 1 cf) ∧ u.cell? ⟨b1 + 1, 1, none⟩ = some (.int .i64 1) ∧ u.cell? ⟨b1 + 1, 2, none⟩ = some (.int .i64 C) ∧ u.cell? ⟨S, off, none⟩ = some (.slice (some ⟨Br, fr, none⟩) (T + 1) kr)) from fun u hu => by
    obtain ⟨_, x1⟩ := (HX2.out.1.under hu).cells
    obtain ⟨k0, k1, k2, _, _, _⟩ := HX2.out.2.below hu
    exact ⟨x1, k0, k1, k2, ((HB2.out.trans (hu.mono HB2.out.size)).cell (lt_of_cell HG.out)).trans HG.out⟩)
  obtain ⟨x1, k0, k1, k2, g1⟩ := HCELL.out w2 (Below.refl _ _)
  have hwn : IntKind.i64.wrap (((T + 1 : Nat) : Int) - 1) = (T : Int) := by rw [show ((T + 1 : Nat) : Int) - 1 = (T : Int) by omega]; exact IntWalk.i64_in _ ⟨by omega, by omega⟩
  have hwn' : IntKind.i64.wrap ((T : Int) + 1 - 1) = (T : Int) := by rw [show (T : Int) + 1 - 1 = (T : Int) by omega]; exact IntWalk.i64_in _ ⟨by omega, by omega⟩
  have hmx : (if (0 : Int) < (T : Int) then (T : Int) else 0) = (T : Int) := by split <;> omega
  have hmx2 : (if (T : Int) < 0 then 0 else (T : Int)) = (T : Int) := by split <;> omega
  have HCUM := Lib.hid (show cumC 0 (T : Int) lq = 0 ∧ cumL 0 (T : Int) lq = sumsL 0 (T + 1) lq from by
    have hc : cumC 0 (T : Int) lq = 0 := by unfold cumC; rw [if_pos HV.out, if_neg (by omega)]
    exact ⟨hc, by unfold cumL; rw [if_pos hc, Int.toNat_natCast]⟩)
  have hTp : (0 : Int) < (T : Int) := by omega
  have hTq : ¬ (T : Int) < 0 := by omega
  have hTr : ¬ (T : Int) ≤ 0 := by omega
  have hcu := rcumulative13 a n cap lq 0 (T : Int) 0 HCUM.out.1 (sumsL 0 (T + 1) lq) HCUM.out.2 w2 (HP.out.under HB2.out)
  have HCU := Lib.hid hcu
  clear hcu
  go_wp2_with fail
  refine HCU.out.mono ?_
  rintro e w3 ⟨ac, nc, cc, rfl, hb3, hz3, _⟩
  obtain rfl : nc = T + 1 := by rw [← hz3.len]; exact sumsL_len _ _ _
  have HB3 := Lib.hid hb3
  have HZ3 := Lib.hid hz3
  clear hb3 hz3 x1 k0 k1 k2 g1 HCU
  have HA := Lib.hid (fun s => arr0_bd (lq := lq) HV.out s)
  have HAT := Lib.hid (at_line C)
  have HG1 := Lib.hid (good_line hC.1 hC.2)
  clear hwn hwn' hmx hmx2
  have HROW := Lib.hid (show ∀ (u : World), Below w3.heap.size w3 u → ∀ t : Nat, t < T + 1 → (u.cell? ⟨Br, fr + t, none⟩ = some (.int .i64 (Sn 0 t)) ∧ 0 ≤ Sn 0 t ∧ Sn 0 t ≤ 90000 ∧ ∃ y, ac = some y ∧ u.cell? (y.add t) = some (.int .i64 (arr0 lq t)) ∧ 0 ≤ arr0 lq t ∧ arr0 lq t ≤ 90000) from fun u hu t ht => by
    obtain ⟨yr, z, hyr, hcr, _, hzr, _⟩ := row_get16 (HZ.out) ht
    rw [valsF_at _ ht] at hzr
    cases hyr
    rw [WideShapes.add_plain] at hcr
    obtain ⟨yc, zc, hyc, hcc, _, hzc, _⟩ := row_get16 (HZ3.out.under hu) ht
    rw [sumsL_at _ _ _ ht] at hzc
    have h1 := HSB.out t ht
    have h2 := HA.out t
    have hzc' : arr0 lq t = zc := hzc
    exact ⟨by rw [((HB2.out.trans ((HB3.out.trans (hu.mono HB3.out.size)).mono HB2.out.size)).cell (lt_of_cell hcr)).trans hcr, ← hzr], h1.1, h1.2, yc, hyc, by rw [hcc, hzc'], h2.1, h2.2⟩)
  go_wp2_with fail
  go_loopw [12] (fun vi wx => ∃ s : Nat, vi = .int .i64 s ∧ s ≤ T + 1 ∧ Hid (Below w3.heap.size w3 wx)) (fun vi _ => T + 1 - (intOf vi).toNat)
  case atStart => exact ⟨0, by go_num, Nat.zero_le _, Lib.hid (Below.refl _ _)⟩
  case round =>
    obtain ⟨s, rfl, hs, HT⟩ := hrel
    obtain ⟨wt, rfl⟩ : ∃ u : World, u = wr := ⟨_, rfl⟩
    by_cases hlt : s ≤ T
    · have hlI : (s : Int) ≤ (T : Int) := by omega
      have hws : IntKind.i64.wrap ((s : Int) + 1) = (s : Int) + 1 := IntWalk.i64_in _ ⟨by omega, by omega⟩
      obtain ⟨X, hX⟩ : ∃ x, Sn 0 s = x := ⟨_, rfl⟩
      have HX := Lib.hid hX
      have hXb := HSB.out s (by omega)
      rw [hX] at hXb
      clear hX
      go_wp2_with fail
      go_loopw [13] (fun s13 wx => ∃ t : Nat, s13 = .int .i64 t ∧ s + 1 ≤ t ∧ t ≤ T + 1 ∧ Hid (∀ u : Nat, s < u → u < t → Sn 0 u < arr0 lq u) ∧ Hid (Below w3.heap.size w3 wx)) (fun s13 _ => T + 1 - (intOf s13).toNat)
      case atStart => exact ⟨s + 1, by first | rfl | go_num, Nat.le_refl _, by omega, Lib.hid (fun u h1 h2 => by omega), HT⟩
      case round =>
        obtain ⟨t, rfl, hst, htT, HU, HW⟩ := hrel
        obtain ⟨ws, rfl⟩ : ∃ u : World, u = wr := ⟨_, rfl⟩
        by_cases hlt2 : t ≤ T
        · have hltI : (t : Int) ≤ (T : Int) := by omega
          obtain ⟨x1, k0, k1, k2, g1⟩ := HCELL.out ws (HB3.out.trans (HW.out.mono HB3.out.size))
          obtain ⟨cr, e1, e2, y, hy, cc', e3, e4⟩ := HROW.out ws HW.out t (by omega)
          obtain ⟨Y, hY⟩ : ∃ x, Sn 0 t = x := ⟨_, rfl⟩
          obtain ⟨A, hA⟩ : ∃ x, arr0 lq t = x := ⟨_, rfl⟩
          rw [hY] at cr e1 e2
          rw [hA] at cc' e3 e4
          have HYA := Lib.hid (And.intro hY hA)
          clear hY hA
          subst hy
          have htI2 : (t : Int) < ((T : Int) + 1) := by omega
          by_cases hgt : Y < A
          · have hg : A > Y := hgt
            have HN := Lib.hid (show ∀ u : Nat, s < u → u < t + 1 → Sn 0 u < arr0 lq u from fun u h1 h2 => by
              by_cases e : u = t
              · rw [e, HYA.out.1, HYA.out.2]; exact hgt
              · exact HU.out u h1 (by omega))
            obtain ⟨vv, hvv⟩ : ∃ vv, C * ((t : Int) - (s : Int)) = vv := ⟨_, rfl⟩
            have HVV := Lib.hid hvv
            have hvb : 0 ≤ vv ∧ vv ≤ 4000 * 300 := by
              rw [← hvv]
              have m1 : C * ((t : Int) - (s : Int)) ≤ 4000 * 300 := Int.mul_le_mul hC.2 (by omega) (by omega) (by omega)
              exact ⟨Int.mul_nonneg (by omega) (by omega), m1⟩
            have hge : ¬ Y - X < vv := by
              have h := HS.out s t (by omega) hlt2 (fun u h1 h2 => HN.out u h1 (by omega))
              rw [HYA.out.1, HX.out, hvv] at h
              omega
            clear hvv
            have hwd : IntKind.i64.wrap ((t : Int) - (s : Int)) = (t : Int) - (s : Int) := IntWalk.i64_in _ ⟨by omega, by omega⟩
            have hwy : IntKind.i64.wrap (Y - X) = Y - X := IntWalk.i64_in _ ⟨by omega, by omega⟩
            have hvi : (vv != 4611686018427387904) = true := by simp; omega
            go_upto_region 11 with fail
            go_quiet (fail)
            obtain ⟨x1', k0', k1', k2', g1'⟩ := HCELL.out (ws.drewN nq) ((HB3.out.trans (HW.out.mono HB3.out.size)).drewN nq)
            clear x1 k0 k1 k2 g1 cr cc'
            obtain ⟨wq, hwq⟩ : ∃ u, ws.drewN nq = u := ⟨_, rfl⟩
            have HWQ := Lib.hid (show Below w3.heap.size w3 wq from by rw [← hwq]; exact HW.out.drewN nq)
            rw [hwq] at x1' k0' k1' k2' g1' ⊢
            clear hwq
            go_wp2_with fail
            refine (rat_at af 1 cf [0] 1 C HG1.out ((t : Int) - (s : Int)) (t - s) (by omega) (by omega) vv (by rw [HAT.out, ← HVV.out]; congr 1; omega) _ (HF.out.under (HB2.out.trans ((HB3.out.trans (HWQ.out.mono HB3.out.size)).mono HB2.out.size)))).mono ?_
            rintro e u ⟨rfl, hbu⟩
            have HUU := Lib.hid (HWQ.out.trans (hbu.mono HWQ.out.size))
            clear hbu x1' k0' k1' k2' g1'
            obtain ⟨x1, k0, k1, k2, g1⟩ := HCELL.out u (HB3.out.trans (HUU.out.mono HB3.out.size))
            have cr := (HROW.out u HUU.out t (by omega)).1
            have cs := (HROW.out u HUU.out s (by omega)).1
            rw [HYA.out.1] at cr
            rw [HX.out] at cs
            have hsI2 : (s : Int) < ((T : Int) + 1) := by omega
            go_upto_region 14 with fail
            go_quiet (fail)
            go_wp2_with fail
            go_roundw
            case rel => exact ⟨t + 1, by go_num, by omega, by omega, HN, Lib.hid (HUU.out.drewN _)⟩
            case measure => first | (simp [intOf]; done) | (simp [intOf]; omega)
          · have hg : ¬ A > Y := hgt
            go_upto_region 11 with fail
            go_quiet (fail)
            go_wp2_with fail
            go_roundw
            case rel => exact ⟨s + 1, by go_num, by omega, Lib.hid (HW.out.drewN _)⟩
            case measure => first | (simp [intOf]; done) | (simp [intOf]; omega)
        · have hltI : ¬ (t : Int) ≤ (T : Int) := by omega
          go_upto_region 11 with fail
          go_quiet (fail)
          go_wp2_with fail
          go_roundw
          case rel => exact ⟨s + 1, by go_num, by omega, Lib.hid (HW.out.drewN _)⟩
          case measure => first | (simp [intOf]; done) | (simp [intOf]; omega)
    · obtain rfl : s = T + 1 := by omega
      have hlI : ¬ (((T + 1 : Nat) : Int)) ≤ (T : Int) := by omega
      have hlI' : ¬ ((T : Int) + 1) ≤ (T : Int) := by omega
      go_wp2_with fail
      go_ret
      exact ⟨rfl, HB2.out.trans ((HB3.out.trans (HT.out.mono HB3.out.size)).mono HB2.out.size)⟩
end Go.Proofs.Ytkienpbmoilheaa
