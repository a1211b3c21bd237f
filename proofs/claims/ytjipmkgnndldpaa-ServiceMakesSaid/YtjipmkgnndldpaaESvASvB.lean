/- Contracts of package service: unfit, faulty, upwards, the closure. By the verifier's side. -/
import Derived.Test.YtjipmkgnndldpaaEBkABkB
import Derived.Test.YtjipmkgnndldpaaEBkMBkXSvM
import Derived.Test.YtjipmkgnndldpaaEBkFSvFSvG
import Derived.Test.YtjipmkgnndldpaaEPwFPwG
import Derived.Test.YtjipmkgnndldpaaEKeepT
import Derived.BigRegion
import Derived.Laws.EntriesVeiled
import Derived.Test.YtjipmkgnndldpaaECurSCurLCurW
import Derived.Test.YtjipmkgnndldpaaEBaseApartPickKeepS
namespace Go.Proofs.Ytjipmkgnndldpaa
open Go.RowKit
set_option linter.unusedSimpArgs false
set_option linter.unusedVariables false

set_option maxHeartbeats 800000 in
theorem svunfit_any (n d : Int) (c : Bool) (hc : okB n d = c) (w : World) : Calls Try.prog 104 #[.agg #[.int .i64 n, .int .i64 d]] w (Says (.bool (!c)) w) := by
  cases hv : okF n d with
  | false =>
    obtain rfl : c = false := by rw [← hc]; unfold okB; rw [hv]; rfl
    have HV := Lib.hid hv
    clear hv hc
    go_enter Try.func104, Try.ntmps104
    go_wp2_with fail
    refine (valid_all n d _ HV.out _).mono ?_
    rintro e w1 ⟨rfl, hb⟩
    have HBB := Lib.hid (fr_one1 hb)
    clear hb
    go_wp2_with fail
    go_ret
    exact ⟨rfl, HBB.out⟩
  | true =>
    by_cases h0 : n < 0
    · obtain rfl : c = false := by rw [← hc]; unfold okB; rw [hv, decide_eq_false (by omega)]; rfl
      have HV := Lib.hid hv
      clear hv hc
      go_enter Try.func104, Try.ntmps104
      go_wp2_with fail
      refine (valid_all n d _ HV.out _).mono ?_
      rintro e w1 ⟨rfl, hb⟩
      have HBB := Lib.hid (fr_one1 hb)
      obtain ⟨hc1, hf1⟩ := bcell hb
      clear hb
      go_wp2_with fail
      go_ret
      exact ⟨rfl, HBB.out⟩
    · obtain rfl : c = true := by rw [← hc]; unfold okB; rw [hv, decide_eq_true (by omega)]; rfl
      have t0 : decide (n < 0) = false := decide_eq_false h0
      have HV := Lib.hid hv
      clear hv hc
      go_enter Try.func104, Try.ntmps104
      go_wp2_with fail
      refine (valid_all n d _ HV.out _).mono ?_
      rintro e w1 ⟨rfl, hb⟩
      have HBB := Lib.hid (fr_one1 hb)
      obtain ⟨hc1, hf1⟩ := bcell hb
      clear hb
      go_wp2_with fail
      go_ret
      exact ⟨rfl, HBB.out⟩

set_option maxHeartbeats 800000 in
theorem svfaulty_any (bn bd rn rd : Int) (c : Bool) (hc : (okB bn bd && okB rn rd) = c) (w : World) : Calls Try.prog 95 #[bucketV bn bd rn rd] w (Says (.bool (!c)) w) := by
  have HX := Lib.hid (Bk4.new w bn bd rn rd 25)
  cases h1 : okB bn bd with
  | false =>
    obtain rfl : c = false := by rw [← hc, h1]; rfl
    have HV := Lib.hid h1
    clear h1 hc
    go_enter Try.func95, Try.ntmps95
    go_wp2_with fail
    refine (svunfit_any bn bd _ HV.out _).mono ?_
    rintro e w1 ⟨rfl, hb⟩
    have HBB := Lib.hid (fr_one1 hb)
    clear hb
    go_wp2_with fail
    go_ret
    exact ⟨rfl, HBB.out⟩
  | true =>
    obtain rfl : c = okB rn rd := by rw [← hc, h1]; rfl
    cases h2 : okB rn rd with
    | false =>
      have HV := Lib.hid (And.intro h1 h2)
      clear h1 h2 hc
      go_enter Try.func95, Try.ntmps95
      go_wp2_with fail
      refine (svunfit_any bn bd _ HV.out.1 _).mono ?_
      rintro e w1 ⟨rfl, hb⟩
      obtain ⟨c0, c1, c2, c3⟩ := HX.out.below hb
      have HBB := Lib.hid (fr_one1 hb)
      clear hb
      go_wp2_with fail
      clear c0 c1 c2 c3
      refine (svunfit_any rn rd _ HV.out.2 _).mono ?_
      rintro e w2 ⟨rfl, hb⟩
      have HB2 := Lib.hid (HBB.out.trans (hb.mono HBB.out.size))
      clear hb
      go_wp2_with fail
      go_ret
      exact ⟨rfl, HB2.out⟩
    | true =>
      have HV := Lib.hid (And.intro h1 h2)
      clear h1 h2 hc
      go_enter Try.func95, Try.ntmps95
      go_wp2_with fail
      refine (svunfit_any bn bd _ HV.out.1 _).mono ?_
      rintro e w1 ⟨rfl, hb⟩
      obtain ⟨c0, c1, c2, c3⟩ := HX.out.below hb
      have HBB := Lib.hid (fr_one1 hb)
      clear hb
      go_wp2_with fail
      clear c0 c1 c2 c3
      refine (svunfit_any rn rd _ HV.out.2 _).mono ?_
      rintro e w2 ⟨rfl, hb⟩
      have HB2 := Lib.hid (HBB.out.trans (hb.mono HBB.out.size))
      clear hb
      go_wp2_with fail
      go_ret
      exact ⟨rfl, HB2.out⟩

set_option maxHeartbeats 400000 in
theorem upwards_any (n d m : Nat) (hn : n ≤ 4611686018427387904) (hd : 1 ≤ d) (hd2 : d ≤ 2147483648) (hm : upN n d = m) (w : World) :
    Calls Try.prog 193 #[.int .i64 n, .int .i64 d] w fun e w' => e = .returned (.int .i64 m) ∧ w' = w := by
  obtain ⟨A, hA⟩ : ∃ A : Nat, n + d - 1 = A := ⟨_, rfl⟩
  have eA : (n : Int) + (d : Int) - 1 = (A : Int) := by omega
  have eq1 : (A : Int).tdiv (d : Int) = (m : Int) := by rw [← hm]; unfold upN; rw [hA]; exact (Int.ofNat_tdiv A d).symm
  have hmA : m ≤ A := by rw [← hm]; unfold upN; rw [hA]; exact Nat.div_le_self _ _
  have n0 : ¬ (d : Int) = 0 := by omega
  have n1 : ¬ d = 0 := by omega
  clear hm hA
  go_enter Try.func193, Try.ntmps193
  go_wp2_with fail
  go_ret
  exact ⟨rfl, rfl⟩

theorem drewN_two {w W : World} {n : Nat} (h : w.drewN n = W) (k : Nat) : ∃ m, W.drewN k = w.drewN m := ⟨n + k, by rw [← h]; exact World.drewN_drewN _ _ _⟩
theorem up_bd (n d : Nat) : upN n d ≤ n + d := by unfold upN; exact Nat.le_trans (Nat.div_le_self _ _) (by omega)

set_option maxHeartbeats 1600000 in
theorem sent1_any {w : World} {lp rp : Nat} {rn rd ln ld T : Nat} (hx : Box w lp ln ld) (hy : Box w rp rn rd) (r0 : rn ≤ 1073741824) (r1 : 1 ≤ rd) (r2 : rd ≤ 120) (l0 : ln ≤ 1073741824) (l1 : 1 ≤ ld) (l2 : ld ≤ 1073741824) (hT : T ≤ 1073742700) :
    ClosG 192 #[.pointer (some ⟨lp, 0, none⟩), .pointer (some ⟨rp, 0, none⟩)] T (paceF rn rd ln ld) w := by
  rintro ti t v w' rfl ht hv' hbw
  show Calls Try.prog 192 #[.int .i64 t, .pointer (some ⟨lp, 0, none⟩), .pointer (some ⟨rp, 0, none⟩)] w' (Drew (.int .i64 v) w')
  obtain ⟨c0, c1, _, _⟩ := hx.below hbw
  obtain ⟨d0, d1, _, _⟩ := hy.below hbw
  have hp := pace_prog (rn := rn) (ln := ln) (t := t) r1 l1
  obtain ⟨M, hM⟩ : ∃ M : Nat, t * ld = M := ⟨_, rfl⟩
  have hMb : M ≤ 1073742700 * 1073741824 := by rw [← hM]; exact Nat.mul_le_mul (by omega) l2
  have eM : (t : Int) * (ld : Int) = (M : Int) := by rw [← hM]; exact (Int.natCast_mul t ld).symm
  rw [hM] at hp
  by_cases hle : M ≤ ln
  · have EV := Lib.hid (show (0 : Int) = v by
      rw [← hv']; show (0 : Int) = ((paceN rn rd ln ld t : Nat) : Int)
      rw [pace_none r1 l1 (by omega)]; rfl)
    have h1 : (M : Int) - (ln : Int) ≤ 0 := by omega
    clear hp hM hv' hx hy hbw
    go_enter Try.func192, Try.ntmps192
    go_wp2_with fail
    rw [EV.out]
    go_ret
    exact ⟨rfl, 0, rfl⟩
  · obtain ⟨P, hP⟩ : ∃ P : Nat, M - ln = P := ⟨_, rfl⟩
    have eP : (M : Int) - (ln : Int) = (P : Int) := by omega
    have hP0 : ¬ (P : Int) ≤ 0 := by omega
    have hP1 : ¬ P ≤ 0 := by omega
    rw [hP] at hp
    obtain ⟨q, hq⟩ : ∃ q : Nat, P / ld = q := ⟨_, rfl⟩
    obtain ⟨r, hr⟩ : ∃ r : Nat, P % ld = r := ⟨_, rfl⟩
    have hqb : q ≤ 1073742700 := by
      rw [← hq]
      refine Nat.div_le_of_le_mul ?_
      have : M ≤ ld * 1073742700 := by rw [← hM, Nat.mul_comm]; exact Nat.mul_le_mul_left _ (by omega)
      omega
    have hrb : r < ld := by rw [← hr]; exact Nat.mod_lt _ (by omega)
    have eq1 : (P : Int).tdiv (ld : Int) = (q : Int) := by rw [← hq]; exact (Int.ofNat_tdiv P ld).symm
    have er1 : (P : Int).tmod (ld : Int) = (r : Int) := by rw [← hr]; exact (Int.ofNat_tmod P ld).symm
    rw [hq, hr] at hp
    obtain ⟨A, hA⟩ : ∃ A : Nat, rn * r = A := ⟨_, rfl⟩
    obtain ⟨B, hB⟩ : ∃ B : Nat, rn * q = B := ⟨_, rfl⟩
    have eA : (rn : Int) * (r : Int) = (A : Int) := by rw [← hA]; exact (Int.natCast_mul rn r).symm
    have eB : (rn : Int) * (q : Int) = (B : Int) := by rw [← hB]; exact (Int.natCast_mul rn q).symm
    have hAb : A ≤ 1073741824 * 1073741824 := by rw [← hA]; exact Nat.mul_le_mul r0 (by omega)
    have hBb : B ≤ 1073741824 * 1073742700 := by rw [← hB]; exact Nat.mul_le_mul r0 hqb
    rw [hA, hB] at hp
    obtain ⟨U, hU⟩ : ∃ U : Nat, upN A ld = U := ⟨_, rfl⟩
    have hUb : U ≤ A + ld := by rw [← hU]; exact up_bd _ _
    rw [hU] at hp
    obtain ⟨X, hX⟩ : ∃ X : Nat, B + U = X := ⟨_, rfl⟩
    have eX : (B : Int) + (U : Int) = (X : Int) := by omega
    rw [hX] at hp
    obtain ⟨Z, hZ⟩ : ∃ Z : Nat, upN X rd = Z := ⟨_, rfl⟩
    rw [hZ] at hp
    have HU1 := Lib.hid (fun w => upwards_any A ld U (by omega) l1 (by omega) hU w)
    have HU2 := Lib.hid (fun w => upwards_any X rd Z (by omega) r1 (by omega) hZ w)
    have EV := Lib.hid (show (Z : Int) = v by rw [← hv']; show _ = ((paceN rn rd ln ld t : Nat) : Int); rw [← hp])
    have n0 : ¬ (ld : Int) = 0 := by omega
    have n1 : ¬ ld = 0 := by omega
    have HBX := Lib.hid (hx.below hbw)
    have HBY := Lib.hid (hy.below hbw)
    clear hp hM hP hq hr hA hB hU hX hZ hv' hx hy hbw
    go_enter Try.func192, Try.ntmps192
    go_wp2_with fail
    go_quiet (fail)
    go_upto_region 5 with fail
    obtain ⟨W2, hW2⟩ : ∃ W2, w'.drewN nq = W2 := ⟨_, rfl⟩
    rw [hW2]
    have HW2 := Lib.hid hW2
    clear c0 c1 d0 d1
    obtain ⟨c0, c1, _, _⟩ : Box W2 lp ln ld := by rw [← hW2]; exact HBX.out.drewN _
    obtain ⟨d0, d1, _, _⟩ : Box W2 rp rn rd := by rw [← hW2]; exact HBY.out.drewN _
    clear hW2
    go_quiet (first
      | (go_at_call 193; with_reducible exact Calls.quiet_of_same (HU1.out _))
      | (go_at_call 193; with_reducible exact Calls.quiet_of_same (HU2.out _)))
    go_wp2_with fail
    rw [EV.out]
    go_ret
    refine ⟨rfl, ?_⟩
    exact drewN_two HW2.out _

end Go.Proofs.Ytjipmkgnndldpaa

namespace Go.Proofs.Ytjipmkgnndldpaa
open Go.RowKit
set_option linter.unusedSimpArgs false
set_option linter.unusedVariables false

/-- What sent answers, and Pace for paces that are not faulty. -/
def PacIs (rn rd ln ld : Nat) (zs : List Int) (p inc c : Int) : Prop :=
  ((rn = 0 ∨ rd ≤ 120) ∧ EIs (paceE rn rd ln ld) zs p inc c) ∨ (¬ rn = 0 ∧ 120 < rd ∧ c = 3 ∧ zs = [] ∧ p = 0 ∧ inc = 0)
theorem pacIs_ex (rn rd ln ld : Nat) : ∃ (zs : List Int) (p inc c : Int), PacIs rn rd ln ld zs p inc c := by
  by_cases h : rn = 0 ∨ rd ≤ 120
  · obtain ⟨zs, p, inc, c, k⟩ := eis_ex (paceE rn rd ln ld)
    exact ⟨zs, p, inc, c, .inl ⟨h, k⟩⟩
  · exact ⟨[], 0, 0, 3, .inr ⟨by omega, by omega, rfl, rfl, rfl, rfl⟩⟩
/-- What Pace answers. -/
def PaceIs (rn rd ln ld : Int) (zs : List Int) (p inc c : Int) : Prop :=
  ((okB rn rd && okB ln ld) = true ∧ PacIs rn.toNat rd.toNat ln.toNat ld.toNat zs p inc c) ∨ ((okB rn rd && okB ln ld) = false ∧ c = 2 ∧ zs = [] ∧ p = 0 ∧ inc = 0)
theorem paceIs_ex (rn rd ln ld : Int) : ∃ (zs : List Int) (p inc c : Int), PaceIs rn rd ln ld zs p inc c := by
  cases h : (okB rn rd && okB ln ld) with
  | true =>
    obtain ⟨zs, p, inc, c, k⟩ := pacIs_ex rn.toNat rd.toNat ln.toNat ld.toNat
    exact ⟨zs, p, inc, c, .inl ⟨h, k⟩⟩
  | false => exact ⟨[], 0, 0, 2, .inr ⟨h, rfl, rfl, rfl, rfl⟩⟩

theorem paceE_zero {rd ln ld : Nat} (h1 : 1 ≤ rd) (h2 : 1 ≤ ld) : paceE 0 rd ln ld = fun _ => some 0 := funext fun t => by
  show some (((paceN 0 rd ln ld t : Nat)) : Int) = some 0
  rw [pace_flat h1 h2]; rfl
theorem line_zero_eC (t : Nat) : eC (firsts (lineF 0) 1) 1 0 t = some 0 := by
  have g : Good (firsts (lineF 0) 1) 1 0 := line_good 0 (by omega) (by omega)
  have hf : ¬ InfC (firsts (lineF 0) 1) := by rw [infC_iff]; decide
  have hp := g.per hf
  have hl : (firsts (lineF 0) 1).length - 1 = 0 := rfl
  rw [hl] at hp
  rw [eC_fin hf]
  congr 1
  induction t with
  | zero => rfl
  | succ t ih => have := hp t (Nat.zero_le _); rw [this, ih]; rfl
theorem line0 (w : World) : Calls Try.prog 189 #[.int .i64 0] w (GivesOk (fun _ => some 0) w) := by
  refine (line_ok 0 (by omega) (by omega) w).mono ?_
  rintro e v ⟨a, n, cap, zs, p, inc, rfl, hb, hr, hn, hx⟩
  have hf := hn.eform (line_good 0 (by omega) (by omega))
  rw [show eC (firsts (lineF 0) 1) 1 0 = fun _ => some 0 from funext line_zero_eC] at hf
  exact ⟨a, n, cap, zs, p, inc, rfl, hb, hr, hf, hx⟩
theorem ceilF_up {n d : Nat} (h : okB n d = true) : ceilF n d = (upN n d : Nat) := by
  have h1 := ((okB_iff _ _).1 h).1
  have h2 := (okF_iff _ _).1 h1
  unfold ceilF
  rw [if_pos h1]
  unfold upN
  have hd : 1 ≤ d := by omega
  have hm := Nat.div_add_mod (n + d - 1) d
  have hl := Nat.mod_lt (n + d - 1) (show 0 < d by omega)
  generalize (n + d - 1) / d = q at *
  generalize (n + d - 1) % d = r at *
  have e : (-(n : Int)) / (d : Int) = -(q : Int) := by
    have e1 : (-(n : Int)) = ((d : Int) - 1 - r) + d * (-(q : Int)) := by
      have : ((d * q + r : Nat) : Int) = ((n + d - 1 : Nat) : Int) := by rw [hm]
      rw [Int.natCast_add, Int.natCast_mul] at this
      rw [Int.mul_neg]
      omega
    rw [e1, Int.add_mul_ediv_left _ _ (by omega), Int.ediv_eq_zero_of_lt (by omega) (by omega)]
    omega
  rw [e]; omega

/-- The two blocks that a function of a pace makes first: the pace, and its result. -/
theorem pace_boxes (w : World) (bn bd rn rd : Int) {W : World} (hW : (w.alloc (.cells #[.int .i64 bn, .int .i64 bd, .int .i64 rn, .int .i64 rd] 25)).alloc (.cells #[.slice none 0 0, .int .i64 0, .int .i64 0] 38) = W) :
    Bk4 W w.heap.size bn bd rn rd ∧ Cur3 W (w.heap.size + 1) (.slice none 0 0) (.int .i64 0) (.int .i64 0) ∧ Below w.heap.size w W := by
  subst hW
  refine ⟨(Bk4.new w bn bd rn rd _).alloc _, ?_, ((Below.refl _ _).alloc (Nat.le_refl _) _).alloc (by simp) _⟩
  have := Cur3.new (w.alloc (.cells #[.int .i64 bn, .int .i64 bd, .int .i64 rn, .int .i64 rd] 25)) (.slice none 0 0) (.int .i64 0) (.int .i64 0) 38
  rwa [show (w.alloc (.cells #[.int .i64 bn, .int .i64 bd, .int .i64 rn, .int .i64 rd] 25)).heap.size = w.heap.size + 1 from by simp] at this


set_option maxRecDepth 100000 in
set_option maxHeartbeats 3200000 in
theorem sent_ce {rn rd ln ld : Nat} {zs : List Int} {p inc c : Int} (h : PacIs rn rd ln ld zs p inc c) (hok : okB ln ld = true) (r0 : rn ≤ 1073741824) (r1 : 1 ≤ rd) (r2 : rd ≤ 1073741824) (l0 : ln ≤ 1073741824) (l1 : 1 ≤ ld) (l2 : ld ≤ 1073741824) (w : World) :
    Calls Try.prog 96 #[bucketV rn rd ln ld] w (GivesCE zs p inc c w) := by
  have hmf : ∀ (fn : Fn) (first cap : Array Value) (w : World), (Instr.makeFunc fn first cap).run Try.prog w = .ok (.func fn first cap) w := fun _ _ _ _ => rfl
  obtain ⟨W, hW⟩ : ∃ W, (w.alloc (.cells #[.int .i64 rn, .int .i64 rd, .int .i64 ln, .int .i64 ld] 25)).alloc (.cells #[.slice none 0 0, .int .i64 0, .int .i64 0] 38) = W := ⟨_, rfl⟩
  have hs : W.heap.size = w.heap.size + 1 + 1 := by rw [← hW]; simp
  obtain ⟨hX, hR, hB⟩ := pace_boxes w rn rd ln ld hW
  have HX := Lib.hid hX
  have HR := Lib.hid hR
  have HB := Lib.hid hB
  have HS := Lib.hid hs
  have HW := Lib.hid hW
  have H := Lib.hid h
  have HOK := Lib.hid hok
  have HF := Lib.hid (And.intro (And.intro r0 (And.intro r1 r2)) (And.intro l0 (And.intro l1 l2)))
  clear hX hR hB hs hW h hok
  go_enter Try.func96, Try.ntmps96
  go_upto_region 1 with fail
  rw [HW.out]
  go_cut [4, 5] (fun s4 s5 wx => ∃ p4 p5 : Nat, s4 = .pointer (some ⟨p4, 0, none⟩) ∧ s5 = .pointer (some ⟨p5, 0, none⟩) ∧ Hid (PB w p5 p4 rn rd ln ld wx))
  case first =>
    clear r0 r1 r2 l0 l1 l2
    obtain ⟨c0, c1, c2, c3⟩ := HX.out
    have hs := HS.out
    have l1 : w.heap.size < W.heap.size := by omega
    have l2 : ¬ w.heap.size = W.heap.size := by omega
    have l3 : ¬ W.heap.size = w.heap.size := by omega
    have l4 : ¬ w.heap.size = W.heap.size + 1 := by omega
    have l5 : ¬ W.heap.size + 1 = w.heap.size := by omega
    have l6 : w.heap.size < W.heap.size + 1 := by omega
    clear hs
    have P1 := Lib.hid (PB.two (bn := rn) (bd := rd) (rn := ln) (rd := ld) HR.out HB.out 23)
    have P2 := Lib.hid (PB.two' (bn := rn) (bd := rd) (rn := ln) (rd := ld) HR.out HB.out 23)
    go_region
    · go_wp2_with fail
      go_meet
      exact ⟨_, _, rfl, rfl, P1⟩
    · go_wp2_with fail
      go_meet
      exact ⟨_, _, rfl, rfl, P2⟩
  case rest =>
    obtain ⟨p4, p5, rfl, rfl, HP⟩ := hcut
    obtain ⟨u1, rfl⟩ : ∃ u : World, u = wc := ⟨_, rfl⟩
    by_cases hz : rn = 0
    · subst hz
      have HE := Lib.hid (show EIs (fun _ => some 0) zs p inc c by
        rcases H.out with ⟨_, h⟩ | ⟨h, _⟩
        · rw [paceE_zero r1 l1] at h; exact h
        · exact absurd rfl h)
      obtain ⟨d0, d1, d2, d3⟩ := HP.out.b
      clear r0 r1 r2 l0 l1 l2 H
      go_wp2_with fail
      refine (line0 _).mono ?_
      rintro e u2 ⟨a, n, cap, ys, q, jnc, rfl, hb, hr, hf, hx⟩
      obtain ⟨a', n', cap', he, hb', hr', hx'⟩ := HE.out.ce (w := u1) (w' := u2) (e := .returned (.tuple #[curV a n cap q jnc, .int .i64 0])) ⟨hb, .inl ⟨a, n, cap, ys, q, jnc, rfl, hr, hf, hx⟩⟩
      rw [he]
      have HQ := Lib.hid (GivesCE.post (b := w.heap.size + 1) (p := p) (inc := inc) (c := c) HP.out.below (Nat.le_succ _) HP.out.res.lt hb' hr' hx')
      obtain ⟨e0, e1, e2, e3, e4, e5⟩ := HP.out.res.below hb'
      clear hb hr hf hx hb' hr' hx' he
      go_wp2_with fail
      exact bodyPost_ret (v := .tuple #[curV a' n' cap' p inc, .int .i64 c]) (by simp [results, Try.results96, go_sem, e0, e1, e2]) rfl HQ.out
    have hz2 : ¬ (rn : Int) = 0 := by omega
    have hz3 : ((rn : Int) == 0) = false := by simpa using hz
    by_cases h120 : 120 < rd
    · have HE := Lib.hid (show c = 3 ∧ zs = [] ∧ p = 0 ∧ inc = 0 by
        rcases H.out with ⟨h, _⟩ | ⟨_, _, h⟩
        · omega
        · exact h)
      obtain ⟨rfl, rfl, rfl, rfl⟩ := HE.out
      have h2 : (120 : Int) < (rd : Int) := by omega
      obtain ⟨d0, d1, d2, d3⟩ := HP.out.b
      obtain ⟨e0, e1, e2, e3, e4, e5⟩ := HP.out.res
      clear r0 r1 r2 l0 l1 l2 H
      go_wp2_with fail
      exact bodyPost_ret (v := .tuple #[curV none 0 0 0 0, .int .i64 3]) (by simp [results, Try.results96, go_sem, e0, e1, e2, e3, e4, e5]) rfl (GivesCE.postBad (b := w.heap.size + 1) HP.out.below (Nat.le_succ _) 3)
    · have h2 : ¬ (120 : Int) < (rd : Int) := by omega
      have HE := Lib.hid (show EIs (paceE rn rd ln ld) zs p inc c by
        rcases H.out with ⟨_, h⟩ | ⟨_, h, _⟩
        · exact h
        · exact absurd h h120)
      obtain ⟨fs, hfs⟩ : ∃ f : Nat, upN ln ld = f := ⟨_, rfl⟩
      have hfl : ln ≤ fs * ld := (first_le l1).1 (by omega)
      have hfb : fs ≤ 1073741824 := by rw [← hfs]; exact (up_le l1 _).2 (Nat.le_trans l0 (Nat.le_mul_of_pos_right _ l1))
      have HCE := Lib.hid (show ceilF ln ld = (fs : Int) by rw [← hfs]; exact ceilF_up HOK.out)
      have HFS := Lib.hid (And.intro hfl hfb)
      have HIN := Lib.hid (show In64 (ln : Int) from ⟨by omega, by omega⟩)
      have HCC := Lib.hid (fun (u : World) => (HCE.out ▸ ceil_all (ln : Int) (ld : Int) HIN.out u : Calls Try.prog 191 #[.agg #[.int .i64 ln, .int .i64 ld]] u (Says (.int .i64 (fs : Int)) u)))
      have HX120 := Lib.hid (show rd ≤ 120 by omega)
      have HEN := Lib.hid (show ∀ (args : Array Value) (w : World), (callFunc 192 args).run Try.prog w = .ok (.enter 192 args) w from enters_of Try.func192 (by kernel_rfl) rfl)
      obtain ⟨d0, d1, d2, d3⟩ := HP.out.b
      clear r0 r1 r2 l0 l1 l2 H hfs hfl hfb h120
      go_upto_region 6 with fail
      clear d0 d1 d2 d3
      have KS := Lib.hid (show ∀ u, PB w p5 p4 rn rd ln ld u → (fun u => (u.cell? ⟨p5, 0, none⟩ = some (.int .i64 ln) ∧ u.cell? ⟨p5, 1, none⟩ = some (.int .i64 ld)) ∧ (u.cell? ⟨p4, 0, none⟩ = some (.int .i64 rn) ∧ u.cell? ⟨p4, 1, none⟩ = some (.int .i64 rd)) ∧ True) u from fun u h => ⟨⟨h.r.c0, h.r.c1⟩, ⟨h.b.c0, h.b.c1⟩, trivial⟩)
      have NE4 := Lib.hid (show p4 ≠ w.heap.size + 1 from fun e => by have := HP.out.b.c0; rw [e, HP.out.res.c0] at this; cases this)
      have NE5 := Lib.hid (show p5 ≠ w.heap.size + 1 from fun e => by have := HP.out.r.c0; rw [e, HP.out.res.c0] at this; cases this)
      have Q0 := Lib.hid (HP.out.call (Below.refl _ _).drew)
      refine wp_region_keeps (fun u => (u.cell? ⟨p5, 0, none⟩ = some (.int .i64 ln) ∧ u.cell? ⟨p5, 1, none⟩ = some (.int .i64 ld)) ∧ (u.cell? ⟨p4, 0, none⟩ = some (.int .i64 rn) ∧ u.cell? ⟨p4, 1, none⟩ = some (.int .i64 rd)) ∧ True) 9 1 (by kernel_rfl) (by kernel_rfl) (KS.out _ Q0.out) (fun hHeld0 => ?_)
      obtain ⟨v0, hv0⟩ : ∃ v, u1.drew = v := ⟨_, rfl⟩
      rw [hv0] at Q0 hHeld0 ⊢
      clear hv0
      refine wpAnyK_take (i := 0) (v := ?_) rfl (by kernel_rfl) (fun _ _ _ h => h) (Or.inl ⟨by rfl, ?_⟩) (by assumption) ?_
      rotate_left
      · (intro w hSw; (try dsimp only at hSw); go_simp; try with_reducible rfl)
      try simp only [Act.put, List.getElem_toArray, List.getElem_cons_zero, List.getElem_cons_succ, List.setIfInBounds_toArray, List.set_cons_zero, List.set_cons_succ]
      refine wpAnyK_take (i := 2) (v := ?_) rfl (by kernel_rfl) (fun _ _ _ h => h) (Or.inl ⟨by rfl, ?_⟩) (by assumption) ?_
      rotate_left
      · (intro w hSw; (try dsimp only at hSw); go_simp; try with_reducible rfl)
      try simp only [Act.put, List.getElem_toArray, List.getElem_cons_zero, List.getElem_cons_succ, List.setIfInBounds_toArray, List.set_cons_zero, List.set_cons_succ]
      refine wpAnyK_take (i := 3) (v := ?_) rfl (by kernel_rfl) (fun _ _ _ h => h) (Or.inl ⟨by rfl, ?_⟩) (by assumption) ?_
      rotate_left
      · (intro w hSw; (try dsimp only at hSw); go_simp; try with_reducible rfl)
      try simp only [Act.put, List.getElem_toArray, List.getElem_cons_zero, List.getElem_cons_succ, List.setIfInBounds_toArray, List.set_cons_zero, List.set_cons_succ]
      refine wpAnyK_take (i := 4) (v := ?_) rfl (by kernel_rfl) (fun _ _ _ h => h) (Or.inl ⟨by rfl, ?_⟩) (by assumption) ?_
      rotate_left
      · (intro w hSw; (try dsimp only at hSw); go_simp; try with_reducible rfl)
      try simp only [Act.put, List.getElem_toArray, List.getElem_cons_zero, List.getElem_cons_succ, List.setIfInBounds_toArray, List.set_cons_zero, List.set_cons_succ]
      refine wpAnyK_step (i := 1) rfl (by kernel_rfl) (fun K hK => ?_)
      go_simp
      with_reducible refine (HCC.out _).mono ?_
      rintro e u2 ⟨rfl, hb⟩
      have Q2 := Lib.hid (Q0.out.call hb)
      clear hb
      refine hK.out _ _ (KS.out _ Q2.out) (fun hHeld1 => ?_)
      clear hK K hHeld0
      try simp only [Act.put, List.getElem_toArray, List.getElem_cons_zero, List.getElem_cons_succ, List.setIfInBounds_toArray, List.set_cons_zero, List.set_cons_succ]
      have HCL := Lib.hid (sent1_any (T := fs + 2 * rd) Q2.out.r Q2.out.b HF.out.1.1 HF.out.1.2.1 HX120.out HF.out.2.1 HF.out.2.2.1 HF.out.2.2.2 (by have := HFS.out; have := HX120.out; omega))
      refine wpAnyK_step (i := 5) rfl (by kernel_rfl) (fun K hK => ?_)
      go_simp
      refine (pcurve_any 192 #[.pointer (some ⟨p5, 0, none⟩), .pointer (some ⟨p4, 0, none⟩)] (paceF rn rd ln ld) fs rd rn HF.out.1.2.1 HX120.out (by have := HFS.out; omega) (fun t ht => pace_far HF.out.1.2.1 HF.out.2.2.1 HF.out.1.1 (by have := HFS.out; have := HX120.out; omega)) (pace_per HF.out.1.2.1 HF.out.2.2.1 HFS.out.1) _ HEN.out HCL.out).mono ?_
      rintro e u3 hg
      obtain ⟨a, n, cap, rfl, hb, hr, hx⟩ := HE.out.ce (GivesForm.toE (E := paceE rn rd ln ld) (pace_tame HF.out.1.2.1 HF.out.2.2.1 HF.out.1.1) hg)
      have HQ := Lib.hid (GivesCE.post (b := w.heap.size + 1) (p := p) (inc := inc) (c := c) Q2.out.below (Nat.le_succ _) Q2.out.res.lt hb hr hx)
      have Q3 := Lib.hid (Q2.out.call hb)
      clear hb hr hx hg
      refine hK.out _ _ (KS.out _ Q3.out) (fun hHeld2 => ?_)
      clear hK K hHeld1
      try simp only [Act.put, List.getElem_toArray, List.getElem_cons_zero, List.getElem_cons_succ, List.setIfInBounds_toArray, List.set_cons_zero, List.set_cons_succ]
      refine wpAnyK_take (i := 6) (v := ?_) rfl (by kernel_rfl) (fun _ _ _ h => h) (Or.inl ⟨by rfl, ?_⟩) (by assumption) ?_
      rotate_left
      · (intro w hSw; (try dsimp only at hSw); go_simp; try with_reducible rfl)
      try simp only [Act.put, List.getElem_toArray, List.getElem_cons_zero, List.getElem_cons_succ, List.setIfInBounds_toArray, List.set_cons_zero, List.set_cons_succ]
      refine wpAnyK_take (i := 7) (v := ?_) rfl (by kernel_rfl) (fun _ _ _ h => h) (Or.inl ⟨by rfl, ?_⟩) (by assumption) ?_
      rotate_left
      · (intro w hSw; (try dsimp only at hSw); go_simp; try with_reducible rfl)
      try simp only [Act.put, List.getElem_toArray, List.getElem_cons_zero, List.getElem_cons_succ, List.setIfInBounds_toArray, List.set_cons_zero, List.set_cons_succ]
      refine wpAnyK_step (i := 8) rfl (by kernel_rfl) (fun K hK => ?_)
      obtain ⟨e0, e1, e2, e3, e4, e5⟩ := Q3.out.res
      go_simp
      refine hK.out _ _ ⟨⟨by rw [((Q3.out.r.other NE5.out _ _).other NE5.out _ _ |>.other NE5.out _ _).c0], ((Q3.out.r.other NE5.out _ _).other NE5.out _ _ |>.other NE5.out _ _).c1⟩, ⟨((Q3.out.b.other NE4.out _ _).other NE4.out _ _ |>.other NE4.out _ _).c0, ((Q3.out.b.other NE4.out _ _).other NE4.out _ _ |>.other NE4.out _ _).c1⟩, trivial⟩ (fun hHeld3 => ?_)
      clear hK K hHeld2
      try simp only [Act.put, List.getElem_toArray, List.getElem_cons_zero, List.getElem_cons_succ, List.setIfInBounds_toArray, List.set_cons_zero, List.set_cons_succ]
      refine wpAnyK_done (by kernel_rfl) ?_
      simp only [List.drop_succ_cons, List.drop_zero]
      clear hHeld3
      go_wp2_with fail
      exact bodyPost_ret (v := .tuple #[curV a n cap p inc, .int .i64 c]) (by simp [results, Try.results96, go_sem, e0, e1, e2, e3, e4, e5]) rfl HQ.out

set_option maxHeartbeats 1600000 in
theorem pace_ce {rn rd ln ld : Int} {zs : List Int} {p inc c : Int} (h : PaceIs rn rd ln ld zs p inc c) (w : World) :
    Calls Try.prog 21 #[bucketV rn rd ln ld] w (GivesCE zs p inc c w) := by
  obtain ⟨W, hW⟩ : ∃ W, (w.alloc (.cells #[.int .i64 rn, .int .i64 rd, .int .i64 ln, .int .i64 ld] 25)).alloc (.cells #[.slice none 0 0, .int .i64 0, .int .i64 0] 38) = W := ⟨_, rfl⟩
  obtain ⟨hX, hR, hB⟩ := pace_boxes w rn rd ln ld hW
  have HX := Lib.hid hX
  have HR := Lib.hid hR
  have HB := Lib.hid hB
  have HW := Lib.hid hW
  clear hX hR hB hW
  rcases h with ⟨h1, h2⟩ | ⟨h1, rfl, rfl, rfl, rfl⟩
  · have h1' := h1
    rw [Bool.and_eq_true] at h1'
    obtain ⟨x1, x2, rfl, rfl, m1, m2, m3⟩ := okB_nat h1'.1
    obtain ⟨x3, x4, rfl, rfl, m4, m5, m6⟩ := okB_nat h1'.2
    rw [Int.toNat_natCast, Int.toNat_natCast, Int.toNat_natCast, Int.toNat_natCast] at h2
    have H1 := Lib.hid h1
    have H2 := Lib.hid h2
    have HM := Lib.hid (And.intro (And.intro m1 (And.intro m2 m3)) (And.intro m4 (And.intro m5 m6)))
    clear h1 h1' h2 m1 m2 m3 m4 m5 m6
    go_enter Try.func21, Try.ntmps21
    go_upto_region 1 with fail
    rw [HW.out]
    obtain ⟨c0, c1, c2, c3⟩ := HX.out
    go_wp2_with fail
    clear c0 c1 c2 c3
    refine (svfaulty_any _ _ _ _ _ H1.out _).mono ?_
    rintro e u1 ⟨rfl, hb⟩
    have HX1 := Lib.hid (HX.out.below hb)
    have HR1 := Lib.hid (HR.out.below hb)
    have HB1 := Lib.hid (HB.out.trans (hb.mono HB.out.size))
    clear hb
    obtain ⟨c0, c1, c2, c3⟩ := HX1.out
    go_wp2_with fail
    clear c0 c1 c2 c3
    refine (sent_ce H2.out (by have := H1.out; rw [Bool.and_eq_true] at this; exact this.2) HM.out.1.1 HM.out.1.2.1 HM.out.1.2.2 HM.out.2.1 HM.out.2.2.1 HM.out.2.2.2 _).mono ?_
    rintro e u2 ⟨a, n, cap, rfl, hb, hr, hx⟩
    have HQ := Lib.hid (GivesCE.post (b := w.heap.size + 1) (p := p) (inc := inc) (c := c) HB1.out (Nat.le_succ _) HR1.out.lt hb hr hx)
    obtain ⟨e0, e1, e2, e3, e4, e5⟩ := HR1.out.below hb
    clear hb hr hx
    go_wp2_with fail
    exact bodyPost_ret (v := .tuple #[curV a n cap p inc, .int .i64 c]) (by simp [results, Try.results21, go_sem, e0, e1, e2]) rfl HQ.out
  · have H1 := Lib.hid h1
    clear h1
    go_enter Try.func21, Try.ntmps21
    go_upto_region 1 with fail
    rw [HW.out]
    obtain ⟨c0, c1, c2, c3⟩ := HX.out
    go_wp2_with fail
    clear c0 c1 c2 c3
    refine (svfaulty_any _ _ _ _ _ H1.out _).mono ?_
    rintro e u1 ⟨rfl, hb⟩
    have HR1 := Lib.hid (HR.out.below hb)
    have HB1 := Lib.hid (HB.out.trans (hb.mono HB.out.size))
    have HQ := Lib.hid (GivesCE.postBad (b := w.heap.size + 1) HB1.out (Nat.le_succ _) 2)
    clear hb
    obtain ⟨e0, e1, e2, e3, e4, e5⟩ := HR1.out
    go_wp2_with fail
    exact bodyPost_ret (v := .tuple #[curV none 0 0 0 0, .int .i64 2]) (by simp [results, Try.results21, go_sem, e0, e1, e2]) rfl HQ.out

end Go.Proofs.Ytjipmkgnndldpaa
