/- Contracts of package periodic: the closure of a curve's values, the common multiple, the least period of whatever closure. By the verifier's side. -/
import Derived.Test.YtkienpbmoilheaaGreatACurMToDecM
import Derived.BigQuiet
import Derived.Deep.QuietTactic
import Derived.Test.YtkienpbmoilheaaGreatACurFCurGCurTNum
import Derived.Deep.RegionWith
import Derived.Shelf.Abstract
namespace Go.Proofs.YtkienpbmoilheaaGreat
open Go.RowKit
set_option linter.unusedSimpArgs false

/-- The closure's variables: the curve's box in block B, the number of Values behind it. -/
structure ClosP (w : World) (B : Nat) (a : Option Addr) (n cap : Nat) (zs : List Int) (p : Nat) (inc : Int) : Prop where
  f0 : w.cell? ⟨B, 0, none⟩ = some (.slice a n cap)
  f1 : w.cell? ⟨B, 1, none⟩ = some (.int .i64 p)
  f2 : w.cell? ⟨B, 2, none⟩ = some (.int .i64 inc)
  num : w.cell? ⟨B + 1, 0, none⟩ = some (.int .i64 n)
  row : RowZ w a n cap zs
  good : Good zs p inc

theorem ClosP.under {w w' : World} {B : Nat} {a : Option Addr} {n cap : Nat} {zs : List Int} {p : Nat} {inc : Int} (h : ClosP w B a n cap zs p inc) (hb : Below w.heap.size w w') : ClosP w' B a n cap zs p inc :=
  ⟨(hb.cell (lt_of_cell h.f0)).trans h.f0, (hb.cell (lt_of_cell h.f1)).trans h.f1, (hb.cell (lt_of_cell h.f2)).trans h.f2, (hb.cell (lt_of_cell h.num)).trans h.num, h.row.under hb, h.good⟩

abbrev closPV (B : Nat) : Value := .func (.func 76) #[] #[.pointer (some ⟨B + 1, 0, none⟩), .pointer (some ⟨B, 0, none⟩)]

theorem atC_idx {zs : List Int} {p : Nat} {inc : Int} (g : Good zs p inc) {t : Nat} (ht : zs.length ≤ t) : zs.getD (t - ((t - zs.length) / p + 1) * p) 0 + (((t - zs.length) / p + 1 : Nat) : Int) * inc = atC zs p inc t := by
  by_cases hz : zs.getD (zs.length - 1) 0 = infV
  · have h3 := g.p3
    obtain ⟨rfl, rfl⟩ := g.tailI hz
    rw [atC_inf hz (by omega) (by omega), Nat.div_one, show t - (t - zs.length + 1) * 1 = zs.length - 1 by omega, hz]; simp
  · exact (atC_ge hz ht).symm

set_option maxHeartbeats 1600000 in
theorem atp_any (B : Nat) (a : Option Addr) (n cap : Nat) (zs : List Int) (p : Nat) (inc : Int) (t : Nat) (ht : t ≤ 4194304) (w : World) (h : ClosP w B a n cap zs p inc) :
    Calls Tryz.prog 76 #[.int .i64 t, .pointer (some ⟨B + 1, 0, none⟩), .pointer (some ⟨B, 0, none⟩)] w (Drew (.int .i64 (atC zs p inc t)) w) := by
  have H := Lib.hid h
  obtain ⟨v, hv⟩ : ∃ v, atC zs p inc t = v := ⟨_, rfl⟩
  rw [hv]
  have HV := Lib.hid hv
  clear hv
  obtain ⟨f0, f1, f2, num, hrow, good⟩ := h
  have hlen := hrow.len
  have hfew := good.few
  have hp1 := good.p1
  have hp2 := good.p2
  have hp3 := good.p3
  have hi0 := good.i0
  have hi1 := good.i1
  have HL := Lib.hid hlen
  have hn : n ≤ 400 := by omega
  have hn1 : 1 ≤ n := by omega
  have hpn : p ≤ n := by omega
  by_cases hlt : t < n
  · obtain ⟨x, rfl, hc⟩ := hrow.cell t hlt
    have e : zs.getD t 0 = v := by rw [← HV.out, atC_lt (by omega)]
    rw [e] at hc
    clear hrow good hlen e
    go_enter Tryz.func76, Tryz.ntmps76
    go_wp2_with fail
    go_ret
    exact ⟨rfl, 0, rfl⟩
  · have e : zs.getD (t - ((t - n) / p + 1) * p) 0 + (((t - n) / p + 1 : Nat) : Int) * inc = v := by rw [← HV.out, ← atC_idx good (by omega), hlen]
    have hvb : -9223372036854775808 ≤ v ∧ v ≤ 9223372036854775807 := by
      rw [← HV.out]
      by_cases hz : InfC zs
      · rcases good.inf_small hz t with h | h
        · rw [h]; unfold infV; omega
        · omega
      · have := good.bd hz t; omega
    obtain ⟨i1', i2', i3'⟩ := idx_facts hp1 hpn (show n ≤ t by omega)
    obtain ⟨u, hu⟩ : ∃ u, t = n + u := ⟨t - n, by omega⟩
    obtain ⟨c, hc⟩ : ∃ c, u / p = c := ⟨_, rfl⟩
    have hcu : c ≤ u := by rw [← hc]; exact Nat.div_le_self _ _
    obtain ⟨M, hM⟩ : ∃ M, (c + 1) * p = M := ⟨_, rfl⟩
    rw [show t - n = u by omega, hc, hM] at i1' i2' i3' e
    obtain ⟨i, hi⟩ : ∃ i, t - M = i := ⟨_, rfl⟩
    rw [hi] at e i2' i3'
    obtain ⟨x, rfl, hcell⟩ := hrow.cell i i3'
    obtain ⟨z, hzz⟩ : ∃ z, zs.getD i 0 = z := ⟨_, rfl⟩
    rw [hzz] at e hcell
    obtain ⟨G, hG⟩ : ∃ G, ((c : Int) + 1) * inc = G := ⟨_, rfl⟩
    have e2 : z + G = v := by rw [← e, ← hG]; rfl
    have hG0 : 0 ≤ G ∧ G ≤ 4194305 * 1073741824 := by
      rw [← hG]
      have h1 : ((c : Int) + 1) * inc ≤ 4194305 * 1073741824 := Int.mul_le_mul (by omega) hi1 hi0 (by omega)
      exact ⟨Int.mul_nonneg (by omega) hi0, h1⟩
    have hG1 := hG0.1
    have hG2 := hG0.2
    have r1 : (t : Int) - (n : Int) = (u : Int) := by omega
    have r2 : (u : Int) / (p : Int) = (c : Int) := by rw [← hc, Int.natCast_ediv]
    have r3 : IntKind.i64.wrap (((c : Int) + 1) * (p : Int)) = (M : Int) := by
      rw [show ((c : Int) + 1) * (p : Int) = (M : Int) by rw [← hM]; simp]
      exact IntWalk.i64_in _ ⟨by omega, by omega⟩
    have r4 : (t : Int) - (M : Int) = (i : Int) := by omega
    have r5 : IntKind.i64.wrap (i : Int) = (i : Int) := IntWalk.i64_in _ ⟨by omega, by omega⟩
    have r6 : IntKind.i64.wrap (((c : Int) + 1) * inc) = G := by rw [hG]; exact IntWalk.i64_in _ ⟨by omega, by omega⟩
    have r7 : IntKind.i64.wrap (z + G) = v := by rw [e2]; exact IntWalk.i64_in _ hvb
    have r8 : (0 : Int) ≤ (i : Int) := by omega
    have r9 : (i : Int) < (n : Int) := by omega
    have r10 : ((t : Int) < (n : Int)) = False := by simp; omega
    have r11 : ¬ (p : Int) = 0 := by omega
    have r12 : (1 : Int) ≤ (p : Int) := by omega
    clear hrow good hlen e hc hM hi hzz hG e2 hu hG0 i1' i2' hvb
    go_enter Tryz.func76, Tryz.ntmps76
    go_wp2_with fail
    go_quiet (fail)
    go_wp2_with fail
    go_ret
    exact ⟨rfl, _, rfl⟩

/-- What a closure with one variable hands back at each tick below T, in every world above w. -/
def ClosG (fid : FuncId) (caps : Array Value) (T : Nat) (f : Nat → Int) (w : World) : Prop :=
  ∀ (ti : Int) (t : Nat) (v : Int) (w' : World), ti = t → t < T → f t = v → Below w.heap.size w w' → Calls Tryz.prog fid (#[.int .i64 ti] ++ caps) w' (Drew (.int .i64 v) w')

theorem ClosG.above {fid : FuncId} {caps : Array Value} {T : Nat} {f : Nat → Int} {w u : World} (h : ClosG fid caps T f w) (hb : Below w.heap.size w u) : ClosG fid caps T f u :=
  fun ti t v w' h1 h2 h3 h4 => h ti t v w' h1 h2 h3 (hb.trans (h4.mono hb.size))
theorem ClosG.less {fid : FuncId} {caps : Array Value} {T T' : Nat} {f : Nat → Int} {w : World} (h : ClosG fid caps T f w) (hT : T' ≤ T) : ClosG fid caps T' f w :=
  fun ti t v w' h1 h2 h3 h4 => h ti t v w' h1 (Nat.lt_of_lt_of_le h2 hT) h3 h4

/-- A closure over a curve is handed back; nothing that was there has turned. -/
def GivesClos (zs : List Int) (p : Nat) (inc : Int) (w : World) (e : Ending) (w' : World) : Prop :=
  ∃ B, e = .returned (closPV B) ∧ Below w.heap.size w w' ∧ w.heap.size ≤ B ∧ B + 1 < w'.heap.size ∧ ClosG 76 #[.pointer (some ⟨B + 1, 0, none⟩), .pointer (some ⟨B, 0, none⟩)] 4194304 (atC zs p inc) w'

set_option maxHeartbeats 800000 in
theorem pvalues_any (a : Option Addr) (n cap : Nat) (zs : List Int) (p : Nat) (inc : Int) (g : Good zs p inc) (w : World) (h : RowZ w a n cap zs) :
    Calls Tryz.prog 54 #[curV a n cap p inc] w (GivesClos zs p inc w) := by
  have hmf : ∀ (fn : Fn) (first cap : Array Value) (w : World), (Instr.makeFunc fn first cap).run Tryz.prog w = .ok (.func fn first cap) w := fun _ _ _ _ => rfl
  have hB : Below w.heap.size w ((w.alloc (.cells #[.slice a n cap, .int .i64 p, .int .i64 inc] 24)).alloc (.cells #[.int .i64 n] 3)) := ((Below.refl _ _).alloc (Nat.le_refl _) _).alloc (by simp) _
  have HC : Hid (ClosP ((w.alloc (.cells #[.slice a n cap, .int .i64 p, .int .i64 inc] 24)).alloc (.cells #[.int .i64 n] 3)) w.heap.size a n cap zs p inc) := Lib.hid (by
    obtain ⟨c0, c1, c2, _, _, _⟩ := (Cur3.new w (.slice a n cap) (.int .i64 p) (.int .i64 inc) 24).alloc (.cells #[.int .i64 n] 3)
    exact ⟨c0, c1, c2, by go_simp, h.under hB, g⟩)
  have HB := Lib.hid hB
  clear h g hB
  go_enter Tryz.func54, Tryz.ntmps54
  go_wp2_with fail
  go_ret
  refine ⟨w.heap.size, rfl, HB.out, Nat.le_refl _, by simp, fun ti t v w' h1 h2 h3 h4 => ?_⟩
  subst h1 h3
  exact atp_any _ a n cap zs p inc t (by omega) w' (HC.out.under h4)

set_option maxHeartbeats 400000 in
theorem common_any (a b L : Nat) (hL : a / Nat.gcd a b * b = L) (ha : 1 ≤ a) (ha2 : a ≤ 1000) (hb : 1 ≤ b) (hb2 : b ≤ 1000) (w : World) :
    Calls Tryz.prog 95 #[.int .i64 a, .int .i64 b] w (Drew (.int .i64 L) w) := by
  obtain ⟨g, hg⟩ : ∃ g, Nat.gcd a b = g := ⟨_, rfl⟩
  have hg1 : 1 ≤ (g : Int) := by have := Nat.gcd_pos_of_pos_left b (show 0 < a by omega); omega
  rw [hg] at hL
  obtain ⟨q, hq⟩ : ∃ q, a / g = q := ⟨_, rfl⟩
  have hqa : q ≤ a := by rw [← hq]; exact Nat.div_le_self _ _
  rw [hq] at hL
  have hmb : L ≤ 1000 * 1000 := by rw [← hL]; exact Nat.mul_le_mul (by omega) hb2
  have h1 : (a : Int) / (g : Int) = (q : Int) := by rw [← hq]; simp
  have h3 : IntKind.i64.wrap ((q : Int) * (b : Int)) = (L : Int) := by rw [show (q : Int) * (b : Int) = (L : Int) by rw [← hL]; simp]; exact IntWalk.i64_in _ ⟨by omega, by omega⟩
  have HG := Lib.hid (And.intro hg (And.intro hq hL))
  clear hg hq hL
  go_enter Tryz.func95, Tryz.ntmps95
  go_wp2
  go_loopw [5, 6] (fun va vb wr => ∃ x y : Nat, va = .int .i64 x ∧ vb = .int .i64 y ∧ x < 9223372036854775808 ∧ y < 9223372036854775808 ∧ Hid (Nat.gcd x y = Nat.gcd a b) ∧ ∃ m, wr = w.drewN m) (fun _ vb _ => (intOf vb).toNat)
  case atStart => exact ⟨a, b, rfl, rfl, by omega, by omega, rfl, 0, rfl⟩
  case round =>
    obtain ⟨x, y, rfl, rfl, hx, hy, hg, m, rfl⟩ := hrel
    by_cases h0 : y = 0
    · subst h0
      have hxg : x = g := by have := hg.out; have h5 := HG.out.1; simp at this; omega
      subst hxg
      go_wp2_with fail
      go_ret
      exact ⟨rfl, m, rfl⟩
    · have hy0 : 0 < y := by omega
      have hlt := Nat.mod_lt x hy0
      go_wp2
      go_quiet (fail)
      go_wp2
      go_roundw
      case rel => exact ⟨y, x % y, rfl, by rw [Int.natCast_emod], hy, by omega, (gcd_step x y).trans hg.out, m + _, World.drewN_drewN _ _ _⟩
      case measure => simp [intOf]; omega

set_option maxHeartbeats 1600000 in
theorem leastPeriod_p (fid : FuncId) (caps : Array Value) (F : Nat → Int) (s P : Nat) (hP1 : 1 ≤ P) (hP2 : P ≤ 120) (hs : s ≤ 1073742000) (hbd : ∀ t, t < s + 2 * P → 0 ≤ F t ∧ F t ≤ 4611686018427387904) (w : World) (eg : ∀ (args : Array Value) (w : World), (callFunc fid args).run Tryz.prog w = .ok (.enter fid args) w)
    (hcl : ClosG fid caps (s + 2 * P) F w) :
    Calls Tryz.prog 79 #[.int .i64 s, .int .i64 P, .func (.func fid) #[] caps] w (LeastP F s P w) := by
  have HBD := Lib.hid hbd
  have HCL := Lib.hid (show ∀ (ti : Int) (t : Nat) (v : Int) (w' : World), ti = t → t < s + 2 * P → F t = v → (∃ m, w' = w.drewN m) → Calls Tryz.prog fid (#[.int .i64 ti] ++ caps) w' (Drew (.int .i64 v) w') from
    fun ti t v w' h1 h2 h3 h4 => hcl ti t v w' h1 h2 h3 (below_dr (Below.refl _ _) h4))
  clear hbd hcl
  go_enter Tryz.func79, Tryz.ntmps79
  go_wp2
  go_step3
  go_wp2
  go_step3
  go_wp2
  go_loopg [7] (P - 1) (fun g s7 wx => ∃ q : Nat, s7 = .int .i64 q ∧ q + g = P ∧ 1 ≤ q ∧ Hid (∀ r, 1 ≤ r → r < q → ¬ GrowsAt F s P r) ∧ Hid (∃ m, wx = w.drewN m))
  case atStart => exact ⟨1, rfl, by omega, Nat.le_refl _, fun r h1 h2 => by omega, 0, rfl⟩
  case round =>
    obtain ⟨q, rfl, hq, hq1, hno, hdr⟩ := hrel
    obtain ⟨w0, rfl⟩ : ∃ u : World, u = wr := ⟨_, rfl⟩
    cases gk with
    | zero =>
      have hqP : ¬ (q : Int) < (P : Int) := by omega
      have HQ : Hid (q = P) := Lib.hid (by omega)
      clear hq
      go_wp2_with fail
      try rw [Exit.noGoto_ret]
      go_ret
      exact ⟨P, hP1, Nat.le_refl _, fun hx => absurd hx (Nat.lt_irrefl _), by have := hno.out; rw [HQ.out] at this; exact this, rfl, hdr.out⟩
    | succ g =>
      have hqP : (q : Int) < (P : Int) := by omega
      have hqg : q + 1 + g = P := by omega
      clear hq
      have HQ := Lib.hid hqg
      have hqn : q < P := by omega
      clear hqg
      obtain ⟨v1, hv1⟩ : ∃ v, F (s + q) = v := ⟨_, rfl⟩
      obtain ⟨v2, hv2⟩ : ∃ v, F s = v := ⟨_, rfl⟩
      have b1 := HBD.out (s + q) (by omega)
      have b2 := HBD.out s (by omega)
      rw [hv1] at b1
      rw [hv2] at b2
      obtain ⟨b11, b12⟩ := b1
      obtain ⟨b21, b22⟩ := b2
      have HV := Lib.hid (And.intro hv1 hv2)
      clear hv1 hv2
      go_wp2_with fail
      refine (HCL.out _ (s + q) v1 _ (by omega) (by omega) HV.out.1 hdr.out).mono ?_
      rintro e w1 ⟨rfl, hd1⟩
      have D1 := Lib.hid (dr_trans hdr.out hd1)
      clear hd1
      go_wp2_with fail
      refine (HCL.out _ s v2 _ rfl (by omega) HV.out.2 D1.out).mono ?_
      rintro e w2 ⟨rfl, hd2⟩
      have D2 := Lib.hid (dr_trans D1.out hd2)
      clear hd2
      go_wp2_with fail
      go_loopg [9] (P - 1) (fun g s9 wx => ∃ t : Nat, s9 = .int .i64 t ∧ t + g = s + P ∧ s + 1 ≤ t ∧ Hid (∀ u, s + 1 ≤ u → u < t → F (u + q) - F u = F (s + q) - F s) ∧ Hid (∃ m, wx = w.drewN m))
      case atStart => exact ⟨s + 1, by go_num, by omega, Nat.le_refl _, fun u h1 h2 => by omega, D2.out⟩
      case round =>
        obtain ⟨t, rfl, ht, ht1, hok, hdt⟩ := hrel
        obtain ⟨w3, rfl⟩ : ∃ u : World, u = wr := ⟨_, rfl⟩
        cases gk with
        | zero =>
          have htP : ¬ (t : Int) < (s : Int) + (P : Int) := by omega
          have HT : Hid (t = s + P) := Lib.hid (by omega)
          clear ht
          go_wp2_with fail
          try rw [Exit.noGoto_ret]
          go_ret
          exact ⟨q, hq1, by omega, fun _ u h1 h2 => hok.out u h1 (by rw [HT.out]; exact h2), hno.out, rfl, hdt.out⟩
        | succ g2 =>
          have htP : (t : Int) < (s : Int) + (P : Int) := by omega
          have htg : t + 1 + g2 = s + P := by omega
          have htn : t < s + P := by omega
          clear ht
          have HT := Lib.hid htg
          clear htg
          obtain ⟨v3, hv3⟩ : ∃ v, F (t + q) = v := ⟨_, rfl⟩
          obtain ⟨v4, hv4⟩ : ∃ v, F t = v := ⟨_, rfl⟩
          have b3 := HBD.out (t + q) (by omega)
          have b4 := HBD.out t (by omega)
          rw [hv3] at b3
          rw [hv4] at b4
          obtain ⟨b31, b32⟩ := b3
          obtain ⟨b41, b42⟩ := b4
          have HV3 := Lib.hid (And.intro hv3 hv4)
          clear hv3 hv4
          by_cases hd : v3 - v4 = v1 - v2
          · have hd' : (v3 - v4 != v1 - v2) = false := by simpa using hd
            have HD := Lib.hid hd
            clear hd
            go_wp2_with fail
            refine (HCL.out _ (t + q) v3 _ (by omega) (by omega) HV3.out.1 hdt.out).mono ?_
            rintro e w4 ⟨rfl, hd1⟩
            have D4 := Lib.hid (dr_trans hdt.out hd1)
            clear hd1
            go_wp2_with fail
            refine (HCL.out _ t v4 _ rfl (by omega) HV3.out.2 D4.out).mono ?_
            rintro e w5 ⟨rfl, hd2⟩
            have D5 := Lib.hid (dr_trans D4.out hd2)
            clear hd2
            go_wp2_with fail
            go_roundg g2
            case rel =>
              refine ⟨t + 1, by go_num, HT.out, by omega, fun u h1 h2 => ?_, D5.out⟩
              by_cases hut : u = t
              · subst hut; rw [HV3.out.1, HV3.out.2, HV.out.1, HV.out.2]; exact HD.out
              · exact hok.out u h1 (by omega)
            all_goals omega
          · have hd' : (v3 - v4 != v1 - v2) = true := by simpa using hd
            have HD := Lib.hid hd
            clear hd
            go_wp2_with fail
            refine (HCL.out _ (t + q) v3 _ (by omega) (by omega) HV3.out.1 hdt.out).mono ?_
            rintro e w4 ⟨rfl, hd1⟩
            have D4 := Lib.hid (dr_trans hdt.out hd1)
            clear hd1
            go_wp2_with fail
            refine (HCL.out _ t v4 _ rfl (by omega) HV3.out.2 D4.out).mono ?_
            rintro e w5 ⟨rfl, hd2⟩
            have D5 := Lib.hid (dr_trans D4.out hd2)
            clear hd2
            go_wp2_with fail
            go_roundg g
            case rel =>
              refine ⟨q + 1, by go_num, HQ.out, by omega, fun r h1 h2 => ?_, D5.out⟩
              by_cases hrq : r = q
              · subst hrq
                intro hg
                have := hg t ht1 htn
                rw [HV3.out.1, HV3.out.2, HV.out.1, HV.out.2] at this
                exact HD.out this
              · exact hno.out r h1 (by omega)
            all_goals omega

end Go.Proofs.YtkienpbmoilheaaGreat
