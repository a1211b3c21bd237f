/- The walk of CurveTail. By the verifier's side. -/
import Derived.Test.YtdakadgfnlpogaaCurW
import Derived.Test.YtdakadgfnlpogaaKeepC
namespace Go.Proofs.Ytdakadgfnlpogaa
open Go.RowKit
set_option linter.unusedSimpArgs false

/-- What stands while the tick is reckoned: the reader, the curve's box and row. -/
structure Tl (w3 : World) (b : Nat) (a : Option Addr) (n cap F : Nat) (a' : Option Addr) (n' cap' p : Nat) (inc : Int) (zs : List Int) (w' : World) : Prop where
  src : SrcAt w' b a n cap
  ap : Apart b w3 w'
  box : Cur3 w' F (.slice a' n' cap') (.int .i64 p) (.int .i64 inc)
  row : RowZ w' a' n' cap' zs

theorem SrcAt.drewT {w : World} {b n cap : Nat} {a : Option Addr} (h : SrcAt w b a n cap) : SrcAt w.drew b a n cap := ⟨h.src, h.few, h.row⟩
theorem Tl.drew {w3 u : World} {b n cap F n' cap' p : Nat} {a a' : Option Addr} {inc : Int} {zs : List Int} (h : Tl w3 b a n cap F a' n' cap' p inc zs u) : Tl w3 b a n cap F a' n' cap' p inc zs u.drew :=
  ⟨h.src.drewT, ⟨h.ap.os, h.ap.tape, h.ap.output, h.ap.size, h.ap.block⟩, ⟨h.box.c0, h.box.c1, h.box.c2, h.box.f0, h.box.f1, h.box.f2⟩, ⟨h.row.len, h.row.le, h.row.sm, h.row.cm, h.row.cell, h.row.bd⟩⟩
theorem Tl.call {w3 u v : World} {b n cap F n' cap' p : Nat} {a a' : Option Addr} {inc : Int} {zs : List Int} (h : Tl w3 b a n cap F a' n' cap' p inc zs u) (hF : ¬ F = b) (hx : ∀ x, a' = some x → ¬ x.block = b) (hs : SrcAt v b a n cap) (he : Else b u v) : Tl w3 b a n cap F a' n' cap' p inc zs v :=
  ⟨hs, h.ap.trans he.apart, h.box.apart he.apart hF, ⟨h.row.len, h.row.le, h.row.sm, h.row.cm, fun i hi => by
    obtain ⟨x, h1, h2⟩ := h.row.cell i hi
    exact ⟨x, h1, (he.cell (by rw [add_block]; exact hx x h1)).trans h2⟩, h.row.bd⟩⟩

/-- The cells that are read beside what stands. -/
abbrev TlS (w3 : World) (b : Nat) (a : Option Addr) (n cap F : Nat) (a' : Option Addr) (n' cap' p : Nat) (inc : Int) (zs : List Int) (w' : World) : Prop :=
  w'.cell? ⟨F, 0, none⟩ = some (.slice a' n' cap') ∧ w'.cell? ⟨F, 1, none⟩ = some (.int .i64 p) ∧ Hid (Tl w3 b a n cap F a' n' cap' p inc zs w')
theorem tl_of {w3 w' : World} {b n cap F n' cap' p : Nat} {a a' : Option Addr} {inc : Int} {zs : List Int} (h : TlS w3 b a n cap F a' n' cap' p inc zs w') : Tl w3 b a n cap F a' n' cap' p inc zs w' := h.2.2.out
theorem tl_s {w3 w' : World} {b n cap F n' cap' p : Nat} {a a' : Option Addr} {inc : Int} {zs : List Int} (h : Tl w3 b a n cap F a' n' cap' p inc zs w') : TlS w3 b a n cap F a' n' cap' p inc zs w' := ⟨h.box.c0, h.box.c1, h⟩
theorem value_oki (a : Option Addr) (n cap : Nat) (zs : List Int) (p : Nat) (inc : Int) (g : Good zs p inc) (ti : Int) (t : Nat) (hti : ti = t) (ht : t ≤ 1048576) (w : World) (h : RowZ w a n cap zs) :
    Calls Try.prog 26 #[curV a n cap p inc, .int .i64 ti] w (Pair (atC zs p inc t) 0 w) := by subst hti; exact value_ok a n cap zs p inc g t ht w h

theorem tail_fin {zs : List Int} {p : Nat} {inc : Int} (g : Good zs p inc) (hf : ¬ zs.getD (zs.length - 1) 0 = infV) {t : Nat} (ht : zs.length - p ≤ t) (k : Nat) : atC zs p inc (t + k * p) = atC zs p inc t + (k : Int) * inc := (g.per hf).mul k t ht
theorem tail_inf {zs : List Int} {p : Nat} {inc : Int} (g : Good zs p inc) (hf : zs.getD (zs.length - 1) 0 = infV) {t : Nat} (ht : zs.length - p ≤ t) : atC zs p inc t = 4611686018427387904 := by
  have := (g.tailI hf).1
  have := g.p3
  exact atC_inf hf (by omega) (by omega)

set_option maxRecDepth 100000 in
set_option maxHeartbeats 6400000 in
theorem curveTail_walk (W : World) (a : Option Addr) (n cap : Nat) (hrow : RowAt W a n cap) (t : Int) (ht : In64 t) :
    Calls Try.prog 7 #[.slice a n cap, .int .i64 t] W fun e w' => e = .returned (.bool true) ∧ Below W.heap.size W w' := by
  have HR := Lib.hid hrow
  clear hrow
  go_enter Try.func7, Try.ntmps7
  go_wp2_with fail
  refine (new_any a n cap _ HR.out).mono ?_
  rintro e w1 ⟨rfl, hb1, hz1, a1, n1, cap1, hs1⟩
  have HB1 := Lib.hid hb1
  have HS1 := Lib.hid hs1
  have Z1 := Lib.hid hz1
  clear hb1 hz1 hs1
  go_wp2_with fail
  refine (curve_any 9 (by omega) (by omega) _ a1 n1 cap1 _ HS1.out).mono ?_
  rintro e w2 ⟨a', n', cap', zs, p, inc, rfl, hs2, he2, hr2, ok, hx2⟩
  have OK := Lib.hid ok
  have hxb := Lib.hid (show ∀ x, a' = some x → ¬ x.block = W.heap.size from fun x hx => by have := hx2 x hx; have := Z1.out; omega)
  have HB2 := Lib.hid (HB1.out.trans (he2.below (Nat.le_refl _) HB1.out.size))
  have TL := Lib.hid (show Tl (w2.alloc (.cells #[.slice a' n' cap', .int .i64 p, .int .i64 inc] 24)) W.heap.size a1 n1 cap1 w2.heap.size a' n' cap' p inc zs (w2.alloc (.cells #[.slice a' n' cap', .int .i64 p, .int .i64 inc] 24)) from
    ⟨hs2.under ((Below.refl _ _).alloc (Nat.le_refl _) _), Apart.refl _ _, Cur3.new _ _ _ _ _, hr2.alloc _⟩)
  have hFb : ¬ w2.heap.size = W.heap.size := by have := hs2.lt; omega
  have hlen := hr2.len
  have hp1 := ok.good.p1
  have hp3 := ok.good.p3
  have hp8 := ok.p8
  have hf := ok.few
  have hi0 := ok.good.i0
  have hi1 := ok.inc
  have hn16 : n' ≤ 16 := by omega
  obtain ⟨s0, hs0⟩ : ∃ s0, n' = s0 + p := ⟨n' - p, by omega⟩
  have q1 : IntKind.i64.wrap ((n' : Int) - (p : Int)) = (s0 : Int) := by rw [show (n' : Int) - (p : Int) = (s0 : Int) by omega]; exact IntWalk.i64_in _ ⟨by omega, by omega⟩
  have HL := Lib.hid (And.intro hlen hs0)
  have HB3 := Lib.hid (HB2.out.alloc HB2.out.size (.cells #[.slice a' n' cap', .int .i64 p, .int .i64 inc] 24))
  have hs16 : s0 + p ≤ 16 := by omega
  clear hs2 he2 hr2 ok hx2 hlen hp3 hf hs0
  go_wp2_with fail
  generalize w2.alloc (.cells #[.slice a' n' cap', .int .i64 p, .int .i64 inc] 24) = w3 at TL HB3 ⊢
  go_cut [7] (fun s7 wx => ∃ r : Nat, s7 = .int .i64 ((s0 + r : Nat) : Int) ∧ r < p ∧ Hid (Tl w3 W.heap.size a1 n1 cap1 w2.heap.size a' n' cap' p inc zs wx))
  case first =>
    have c0 := TL.out.box.c0
    have c1 := TL.out.box.c1
    go_region_held3 (fun w' => w'.cell? ⟨w2.heap.size, 0, none⟩ = some (.slice a' n' cap') ∧ w'.cell? ⟨w2.heap.size, 1, none⟩ = some (.int .i64 p) ∧ Hid (Tl w3 W.heap.size a1 n1 cap1 w2.heap.size a' n' cap' p inc zs w'))
      (first | exact ⟨c0, c1, TL.out.drew⟩ | exact ⟨c0, c1, TL⟩ | exact tl_s ((tl_of (by assumption)).call hFb hxb.out hs he))
      (first | (go_at_call 24; refine (n_any (p : Int) (by omega) (by omega) W.heap.size a1 n1 cap1 _ ((tl_of (by assumption)).src)).mono ?_; rintro e w7 ⟨z, hz, rfl, hs, he⟩; obtain ⟨r, rfl⟩ := Int.eq_ofNat_of_zero_le hz.1; have hrp : r < p := (by have := hz.2; omega); have hzw : IntKind.i64.wrap ((s0 : Int) + (r : Int)) = (s0 : Int) + (r : Int) := IntWalk.i64_in _ ⟨by omega, by omega⟩))
    all_goals go_wp2_with fail
    all_goals go_meet
    all_goals exact ⟨r, by go_num, hrp, tl_of (by assumption)⟩
  case rest =>
    obtain ⟨r, rfl, hrp, TX⟩ := hcut
    obtain ⟨w4, rfl⟩ : ∃ u : World, u = wc := ⟨_, rfl⟩
    have HB4 := Lib.hid (HB3.out.trans (TX.out.ap.below (by have := HB2.out.size; omega) (by have := HB3.out.size; omega)))
    have BX := Lib.hid TX.out.box
    have RX := Lib.hid TX.out.row
    obtain ⟨c0, c1, c2, f0, f1, f2⟩ := BX.out
    go_wp2_with fail
    refine (mod_any t 5000 ht (by omega) (by omega) _).mono ?_
    rintro e w5 ⟨rfl, rfl⟩
    obtain ⟨k, hk⟩ : ∃ k : Nat, t % 5000 = (k : Int) := ⟨(t % 5000).toNat, by omega⟩
    have hk5 : k < 5000 := by omega
    have HK := Lib.hid hk
    rw [hk]
    clear hk
    obtain ⟨T, hT⟩ : ∃ T, s0 + r = T := ⟨_, rfl⟩
    rw [hT]
    have hT16 : T ≤ 16 := by omega
    have HT := Lib.hid hT
    clear hT
    obtain ⟨v1, hv1⟩ : ∃ v, atC zs p inc T = v := ⟨_, rfl⟩
    obtain ⟨kp, hkp⟩ : ∃ m, k * p = m := ⟨_, rfl⟩
    have hkpb : kp ≤ 40000 := by rw [← hkp]; exact Nat.le_trans (Nat.mul_le_mul (Nat.le_of_lt hk5) hp8) (by decide)
    obtain ⟨v2, hv2⟩ : ∃ v, atC zs p inc (T + kp) = v := ⟨_, rfl⟩
    obtain ⟨ki, hki⟩ : ∃ m, (k : Int) * inc = m := ⟨_, rfl⟩
    have q2 : IntKind.i64.wrap ((k : Int) * (p : Int)) = (kp : Int) := by rw [show (k : Int) * (p : Int) = (kp : Int) by rw [← hkp]; simp]; exact IntWalk.i64_in _ ⟨by omega, by omega⟩
    have hkib : 0 ≤ ki ∧ ki ≤ 5000 * 1000 := by rw [← hki]; exact ⟨Int.mul_nonneg (by omega) hi0, Int.mul_le_mul (by omega) hi1 hi0 (by omega)⟩
    have q3 : IntKind.i64.wrap ((k : Int) * inc) = ki := by rw [hki]; exact IntWalk.i64_in _ ⟨by omega, by omega⟩
    have hv12 : (v1 = 4611686018427387904 ∧ v2 = 4611686018427387904) ∨ (0 ≤ v1 ∧ v1 ≤ 1073741824 * 17 ∧ v2 = v1 + ki) := by
      have hlt : zs.length - p ≤ T := by have := HL.out; have := HT.out; omega
      by_cases hf : zs.getD (zs.length - 1) 0 = infV
      · exact .inl ⟨by rw [← hv1]; exact tail_inf OK.out.good hf hlt, by rw [← hv2]; exact tail_inf OK.out.good hf (by omega)⟩
      · have hb := OK.out.good.bd hf T
        rw [hv1] at hb
        exact .inr ⟨hb.1, by omega, by rw [← hv2, ← hkp, ← hki, tail_fin OK.out.good hf hlt, hv1]⟩
    have HV := Lib.hid (And.intro hv1 (And.intro hv2 (And.intro hkp hki)))
    clear hv1 hv2 hkp hki
    go_wp2_with fail
    refine (value_ok a' n' cap' zs p inc OK.out.good T (by omega) _ RX.out).mono ?_
    rintro e w6 ⟨he, hb6⟩
    rw [HV.out.1] at he
    subst he
    have HB6 := Lib.hid (HB4.out.trans (hb6.mono HB4.out.size))
    have RX6 := Lib.hid (RX.out.under hb6)
    have BX6 := Lib.hid (BX.out.below hb6)
    clear hb6 c0 c1 c2 f0 f1 f2
    obtain ⟨c0, c1, c2, f0, f1, f2⟩ := BX6.out
    go_wp2_with fail
    refine (value_oki a' n' cap' zs p inc OK.out.good ((T : Int) + (kp : Int)) (T + kp) (by omega) (by omega) _ RX6.out).mono ?_
    rintro e w7 ⟨he, hb7⟩
    rw [HV.out.2.1] at he
    subst he
    have HB7 := Lib.hid (HB6.out.trans (hb7.mono HB6.out.size))
    have BX7 := Lib.hid (BX6.out.below hb7)
    clear hb7 c0 c1 c2 f0 f1 f2
    obtain ⟨c0, c1, c2, f0, f1, f2⟩ := BX7.out
    rcases hv12 with ⟨rfl, rfl⟩ | ⟨b1, b2, hv⟩
    · go_wp2_with fail
      refine (awake_all _).mono ?_
      rintro e w8 ⟨rfl, hb8⟩
      go_wp2_with fail
      go_ret
      exact ⟨rfl, HB7.out.trans (hb8.mono HB7.out.size)⟩
    · have hne : (v1 == 4611686018427387904) = false := by rw [beq_eq_false_iff_ne]; omega
      have hve : (v2 == v1 + ki) = true := by rw [beq_iff_eq]; exact hv
      have hk1 := hkib.1
      have hk2 := hkib.2
      have HVV := Lib.hid hv
      clear hv hkib
      go_wp2_with fail
      refine (awake_all _).mono ?_
      rintro e w8 ⟨rfl, hb8⟩
      go_wp2_with fail
      go_ret
      exact ⟨rfl, HB7.out.trans (hb8.mono HB7.out.size)⟩

end Go.Proofs.Ytdakadgfnlpogaa
