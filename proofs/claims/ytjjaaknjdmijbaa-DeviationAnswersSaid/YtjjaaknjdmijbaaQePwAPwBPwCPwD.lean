/- Contracts of package periodic: the closure of a curve's values, the common multiple, the least period of whatever closure. By the verifier's side. -/
import Derived.Test.YtjjaaknjdmijbaaQeCurMCurNOrdM
import Derived.BigQuiet
import Derived.Deep.QuietTactic
import Derived.Test.YtjjaaknjdmijbaaQeNumCurT
import Derived.Test.YtjjaaknjdmijbaaQePwMPwOPwXR56MConMNDecM
import Derived.Deep.RegionWith
import Derived.Shelf.Abstract
import Derived.Test.YtjjaaknjdmijbaaQeCurSToCurveNormalW
import Derived.Deep.CutBlock
namespace Go.Proofs.Ytjjaaknjdmijbaa
open Go.RowKit
set_option linter.unusedSimpArgs false

/-- The closure's variables: the curve's box in block B, the number of Values behind it. -/
structure ClosP (w : World) (B : Nat) (a : Option Addr) (n cap : Nat) (zs : List Int) (p : Nat) (inc : Int) : Prop where
  f0 : w.cell? ⟨B, 0, none⟩ = some (.slice a n cap)
  f1 : w.cell? ⟨B, 1, none⟩ = some (.int .i64 p)
  f2 : w.cell? ⟨B, 2, none⟩ = some (.int .i64 inc)
  num : w.cell? ⟨B + 1, 0, none⟩ = some (.int .i64 n)
  row : RowZ w a n cap zs
  good : Good zs p inc

theorem ClosP.under {w w' : World} {B : Nat} {a : Option Addr} {n cap : Nat} {zs : List Int} {p : Nat} {inc : Int} (h : ClosP w B a n cap zs p inc) (hb : Below w.heap.size w w') : ClosP w' B a n cap zs p inc :=
  ⟨(hb.cell (lt_of_cell h.f0)).trans h.f0, (hb.cell (lt_of_cell h.f1)).trans h.f1, (hb.cell (lt_of_cell h.f2)).trans h.f2, (hb.cell (lt_of_cell h.num)).trans h.num, h.row.under hb, h.good⟩

abbrev closPV (B : Nat) : Value := .func (.func 181) #[] #[.pointer (some ⟨B + 1, 0, none⟩), .pointer (some ⟨B, 0, none⟩)]

theorem atC_idx {zs : List Int} {p : Nat} {inc : Int} (g : Good zs p inc) {t : Nat} (ht : zs.length ≤ t) : zs.getD (t - ((t - zs.length) / p + 1) * p) 0 + (((t - zs.length) / p + 1 : Nat) : Int) * inc = atC zs p inc t := by
  by_cases hz : zs.getD (zs.length - 1) 0 = infV
  · have h3 := g.p3
    obtain ⟨rfl, rfl⟩ := g.tailI hz
    rw [atC_inf hz (by omega) (by omega), Nat.div_one, show t - (t - zs.length + 1) * 1 = zs.length - 1 by omega, hz]; simp
  · exact (atC_ge hz ht).symm

set_option maxHeartbeats 1600000 in
theorem atp_any (B : Nat) (a : Option Addr) (n cap : Nat) (zs : List Int) (p : Nat) (inc : Int) (t : Nat) (ht : t ≤ 4194304) (w : World) (h : ClosP w B a n cap zs p inc) :
    Calls Try.prog 181 #[.int .i64 t, .pointer (some ⟨B + 1, 0, none⟩), .pointer (some ⟨B, 0, none⟩)] w (Drew (.int .i64 (atC zs p inc t)) w) := by
  have H := Lib.hid h
  obtain ⟨v, hv⟩ : ∃ v, atC zs p inc t = v := ⟨_, rfl⟩
  rw [hv]
  have HV := Lib.hid hv
  clear hv
  obtain ⟨f0, f1, f2, num, hrow, good⟩ := h
  have hlen := hrow.len
  have hfew := good.few
  have hp1 := good.p1
  have hp2 := good.p2
  have hp3 := good.p3
  have hi0 := good.i0
  have hi1 := good.i1
  have HL := Lib.hid hlen
  have hn : n ≤ 400 := by omega
  have hn1 : 1 ≤ n := by omega
  have hpn : p ≤ n := by omega
  by_cases hlt : t < n
  · obtain ⟨x, rfl, hc⟩ := hrow.cell t hlt
    have e : zs.getD t 0 = v := by rw [← HV.out, atC_lt (by omega)]
    rw [e] at hc
    clear hrow good hlen e
    go_enter Try.func181, Try.ntmps181
    go_wp2_with fail
    go_ret
    exact ⟨rfl, 0, rfl⟩
  · have e : zs.getD (t - ((t - n) / p + 1) * p) 0 + (((t - n) / p + 1 : Nat) : Int) * inc = v := by rw [← HV.out, ← atC_idx good (by omega), hlen]
    have hvb : -9223372036854775808 ≤ v ∧ v ≤ 9223372036854775807 := by
      rw [← HV.out]
      by_cases hz : InfC zs
      · rcases good.inf_small hz t with h | h
        · rw [h]; unfold infV; omega
        · omega
      · have := good.bd hz t; omega
    obtain ⟨i1', i2', i3'⟩ := idx_facts hp1 hpn (show n ≤ t by omega)
    obtain ⟨u, hu⟩ : ∃ u, t = n + u := ⟨t - n, by omega⟩
    obtain ⟨c, hc⟩ : ∃ c, u / p = c := ⟨_, rfl⟩
    have hcu : c ≤ u := by rw [← hc]; exact Nat.div_le_self _ _
    obtain ⟨M, hM⟩ : ∃ M, (c + 1) * p = M := ⟨_, rfl⟩
    rw [show t - n = u by omega, hc, hM] at i1' i2' i3' e
    obtain ⟨i, hi⟩ : ∃ i, t - M = i := ⟨_, rfl⟩
    rw [hi] at e i2' i3'
    obtain ⟨x, rfl, hcell⟩ := hrow.cell i i3'
    obtain ⟨z, hzz⟩ : ∃ z, zs.getD i 0 = z := ⟨_, rfl⟩
    rw [hzz] at e hcell
    obtain ⟨G, hG⟩ : ∃ G, ((c : Int) + 1) * inc = G := ⟨_, rfl⟩
    have e2 : z + G = v := by rw [← e, ← hG]; rfl
    have hG0 : 0 ≤ G ∧ G ≤ 4194305 * 1073741824 := by
      rw [← hG]
      have h1 : ((c : Int) + 1) * inc ≤ 4194305 * 1073741824 := Int.mul_le_mul (by omega) hi1 hi0 (by omega)
      exact ⟨Int.mul_nonneg (by omega) hi0, h1⟩
    have hG1 := hG0.1
    have hG2 := hG0.2
    have r1 : (t : Int) - (n : Int) = (u : Int) := by omega
    have r2 : (u : Int) / (p : Int) = (c : Int) := by rw [← hc, Int.natCast_ediv]
    have r3 : IntKind.i64.wrap (((c : Int) + 1) * (p : Int)) = (M : Int) := by
      rw [show ((c : Int) + 1) * (p : Int) = (M : Int) by rw [← hM]; simp]
      exact IntWalk.i64_in _ ⟨by omega, by omega⟩
    have r4 : (t : Int) - (M : Int) = (i : Int) := by omega
    have r5 : IntKind.i64.wrap (i : Int) = (i : Int) := IntWalk.i64_in _ ⟨by omega, by omega⟩
    have r6 : IntKind.i64.wrap (((c : Int) + 1) * inc) = G := by rw [hG]; exact IntWalk.i64_in _ ⟨by omega, by omega⟩
    have r7 : IntKind.i64.wrap (z + G) = v := by rw [e2]; exact IntWalk.i64_in _ hvb
    have r8 : (0 : Int) ≤ (i : Int) := by omega
    have r9 : (i : Int) < (n : Int) := by omega
    have r10 : ((t : Int) < (n : Int)) = False := by simp; omega
    have r11 : ¬ (p : Int) = 0 := by omega
    have r12 : (1 : Int) ≤ (p : Int) := by omega
    clear hrow good hlen e hc hM hi hzz hG e2 hu hG0 i1' i2' hvb
    go_enter Try.func181, Try.ntmps181
    go_wp2_with fail
    go_quiet (fail)
    go_wp2_with fail
    go_ret
    exact ⟨rfl, _, rfl⟩

/-- What a closure with one variable hands back at each tick below T, in every world above w. -/
def ClosG (fid : FuncId) (caps : Array Value) (T : Nat) (f : Nat → Int) (w : World) : Prop :=
  ∀ (ti : Int) (t : Nat) (v : Int) (w' : World), ti = t → t < T → f t = v → Below w.heap.size w w' → Calls Try.prog fid (#[.int .i64 ti] ++ caps) w' (Drew (.int .i64 v) w')

theorem ClosG.above {fid : FuncId} {caps : Array Value} {T : Nat} {f : Nat → Int} {w u : World} (h : ClosG fid caps T f w) (hb : Below w.heap.size w u) : ClosG fid caps T f u :=
  fun ti t v w' h1 h2 h3 h4 => h ti t v w' h1 h2 h3 (hb.trans (h4.mono hb.size))
set_option maxHeartbeats 400000 in
theorem common_any (a b L : Nat) (hL : a / Nat.gcd a b * b = L) (ha : 1 ≤ a) (ha2 : a ≤ 1000) (hb : 1 ≤ b) (hb2 : b ≤ 1000) (w : World) :
    Calls Try.prog 145 #[.int .i64 a, .int .i64 b] w (Drew (.int .i64 L) w) := by
  obtain ⟨g, hg⟩ : ∃ g, Nat.gcd a b = g := ⟨_, rfl⟩
  have hg1 : 1 ≤ (g : Int) := by have := Nat.gcd_pos_of_pos_left b (show 0 < a by omega); omega
  rw [hg] at hL
  obtain ⟨q, hq⟩ : ∃ q, a / g = q := ⟨_, rfl⟩
  have hqa : q ≤ a := by rw [← hq]; exact Nat.div_le_self _ _
  rw [hq] at hL
  have hmb : L ≤ 1000 * 1000 := by rw [← hL]; exact Nat.mul_le_mul (by omega) hb2
  have h1 : (a : Int) / (g : Int) = (q : Int) := by rw [← hq]; simp
  have h3 : IntKind.i64.wrap ((q : Int) * (b : Int)) = (L : Int) := by rw [show (q : Int) * (b : Int) = (L : Int) by rw [← hL]; simp]; exact IntWalk.i64_in _ ⟨by omega, by omega⟩
  have HG := Lib.hid (And.intro hg (And.intro hq hL))
  clear hg hq hL
  go_enter Try.func145, Try.ntmps145
  go_wp2
  go_loopw [5, 6] (fun va vb wr => ∃ x y : Nat, va = .int .i64 x ∧ vb = .int .i64 y ∧ x < 9223372036854775808 ∧ y < 9223372036854775808 ∧ Hid (Nat.gcd x y = Nat.gcd a b) ∧ ∃ m, wr = w.drewN m) (fun _ vb _ => (intOf vb).toNat)
  case atStart => exact ⟨a, b, rfl, rfl, by omega, by omega, rfl, 0, rfl⟩
  case round =>
    obtain ⟨x, y, rfl, rfl, hx, hy, hg, m, rfl⟩ := hrel
    by_cases h0 : y = 0
    · subst h0
      have hxg : x = g := by have := hg.out; have h5 := HG.out.1; simp at this; omega
      subst hxg
      go_wp2_with fail
      go_ret
      exact ⟨rfl, m, rfl⟩
    · have hy0 : 0 < y := by omega
      have hlt := Nat.mod_lt x hy0
      go_wp2
      go_quiet (fail)
      go_wp2
      go_roundw
      case rel => exact ⟨y, x % y, rfl, by rw [Int.natCast_emod], hy, by omega, (gcd_step x y).trans hg.out, m + _, World.drewN_drewN _ _ _⟩
      case measure => simp [intOf]; omega

end Go.Proofs.Ytjjaaknjdmijbaa

namespace Go.Proofs.Ytjjaaknjdmijbaa
open Go.RowKit
set_option linter.unusedSimpArgs false

/-- The curve in normal form with the values F is handed back, or the error that there is none. -/
def GivesForm (F : Nat → Int) (w : World) (e : Ending) (w' : World) : Prop :=
  Below w.heap.size w w' ∧ ((∃ (a : Option Addr) (n cap : Nat) (zs : List Int) (p : Nat) (inc : Int), e = .returned (.tuple #[curV a n cap p inc, .int .i64 0]) ∧ RowZ w' a n cap zs ∧ Form zs p inc F ∧ ∀ x, a = some x → w.heap.size ≤ x.block) ∨
    (e = .returned (.tuple #[curV none 0 0 0 0, .int .i64 3]) ∧ ¬ CanBe F))

/-- What stands while the list is made. -/
structure Mk1 (w : World) (F : Nat → Int) (S lb m k r : Nat) (D : Int) (wx : World) : Prop where
  box : Cur3 wx S (.slice (some ⟨lb, 0, none⟩) m m) (.int .i64 r) (.int .i64 D)
  res : Cur3 wx w.heap.size (.slice none 0 0) (.int .i64 0) (.int .i64 0)
  row : ∀ i, i < m → wx.cell? ⟨lb, i, none⟩ = some (.int .i64 (if i < k then F i else 0)) ∧ wx.frozen? ⟨lb, i, none⟩ = false
  below : Below w.heap.size w wx

theorem Mk1.drewN {w : World} {F : Nat → Int} {S lb m k r : Nat} {D : Int} {wx : World} (h : Mk1 w F S lb m k r D wx) (n : Nat) : Mk1 w F S lb m k r D (wx.drewN n) :=
  ⟨h.box.drewN n, h.res.drewN n, fun i hi => h.row i hi, h.below.drewN n⟩

theorem Mk1.rowZ {w : World} {F : Nat → Int} {S lb m r : Nat} {D : Int} {wx : World} (h : Mk1 w F S lb m m r D wx) (hm : m ≤ 400) (hb : ∀ t, t < m → 0 ≤ F t ∧ F t ≤ 4611686018427387904) : RowZ wx (some ⟨lb, 0, none⟩) m m (firsts F m) :=
  ⟨firsts_length _ _, Nat.le_refl _, by omega, by omega, fun i hi => ⟨_, rfl, by
    have ea : ((⟨lb, 0, none⟩ : Addr).add i) = ⟨lb, i, none⟩ := by unfold Addr.add; split <;> simp_all
    rw [ea, firsts_getD _ _ _ hi, (h.row i hi).1, if_pos hi]⟩, fun i hi => by rw [firsts_getD _ _ _ hi]; have := hb i hi; exact ⟨by omega, by omega⟩⟩

theorem Mk1.zero {w : World} {F : Nat → Int} {S lb m k r : Nat} {D : Int} {wx w' : World} (h : Mk1 w F S lb m k r D wx) (hb : Below wx.heap.size wx w') : Below w.heap.size w (((w'.setCell ⟨w.heap.size, 0, none⟩ (.slice none 0 0)).setCell ⟨w.heap.size, 1, none⟩ (.int .i64 0)).setCell ⟨w.heap.size, 2, none⟩ (.int .i64 0)) :=
  below_set3 (h.below.trans (hb.mono h.below.size)) (Nat.le_refl _) _ _ _

theorem Mk1.done {w : World} {F : Nat → Int} {S lb m r : Nat} {D : Int} {wx w' : World} (h : Mk1 w F S lb m m r D wx) (hlb : w.heap.size < lb) (hm : m ≤ 400) (hb : ∀ t, t < m → 0 ≤ F t ∧ F t ≤ 4611686018427387904) (hbw : Below wx.heap.size wx w') (hf : Form (firsts F m) r D F) :
    GivesForm F w (.returned (.tuple #[curV (some ⟨lb, 0, none⟩) m m r D, .int .i64 0])) (((w'.setCell ⟨w.heap.size, 0, none⟩ (.slice (some ⟨lb, 0, none⟩) m m)).setCell ⟨w.heap.size, 1, none⟩ (.int .i64 r)).setCell ⟨w.heap.size, 2, none⟩ (.int .i64 D)) := by
  have hx : ∀ x : Addr, (some ⟨lb, 0, none⟩ : Option Addr) = some x → 1 ≤ m → x.block ≠ w.heap.size := by
    intro x hx _; cases hx; show lb ≠ w.heap.size; omega
  exact ⟨below_set3 (h.below.trans (hbw.mono h.below.size)) (Nat.le_refl _) _ _ _, .inl ⟨_, m, m, _, r, D, rfl, ((((h.rowZ hm hb).under hbw).store hx _ _).store hx _ _).store hx _ _, hf, fun x hx => by cases hx; show w.heap.size ≤ lb; omega⟩⟩

end Go.Proofs.Ytjjaaknjdmijbaa

namespace Go.Proofs.Ytjjaaknjdmijbaa
open Go.RowKit
set_option linter.unusedSimpArgs false

theorem Mid.bd {x : Int} (h : Mid x) : 0 ≤ x ∧ x ≤ 4611686018427387904 ∧ (x = 4611686018427387904 ∨ x ≤ 1125899906842624) := by
  unfold Mid infV at h; omega

set_option maxHeartbeats 800000 in
theorem growth_any (a : Option Addr) (n cap : Nat) (zs : List Int) (p : Nat) (inc : Int) (g : Good zs p inc) (L : Nat) (hL : L ≤ 120) (G : Int) (hG : growI zs p inc L = G) (w : World) (h : RowZ w a n cap zs) :
    Calls Try.prog 153 #[curV a n cap p inc, .int .i64 L] w (Says (.int .i64 G) w) := by
  have hB : Below w.heap.size w (w.alloc (.cells #[.slice a n cap, .int .i64 p, .int .i64 inc] 24)) := (Below.refl _ _).alloc (Nat.le_refl _) _
  have HBl := Lib.hid hB
  have H := Lib.hid (h.under hB)
  have KF := Lib.hid (Cur3.new w (.slice a n cap) (.int .i64 p) (.int .i64 inc) 24)
  have a1 := g.p1; have a2 := g.p2; have a3 := g.i0; have a4 := g.i1
  have hm := grow_mid g hL
  rw [hG] at hm
  by_cases hi : InfC zs
  · have HO := Lib.hid (finB_inf (p := p) (inc := inc) hi)
    obtain rfl : G = 4611686018427387904 := by rw [← hG, growI_inf hi]
    clear h hB g hG hi hm
    go_enter Try.func153, Try.ntmps153
    go_wp2_with fail
    refine (finite_any a n cap zs p inc ⟨by omega, by omega⟩ ⟨by omega, by omega⟩ false HO.out _ H.out).mono ?_
    rintro e w1 ⟨rfl, hb⟩
    have HB1 := Lib.hid (HBl.out.trans (hb.mono HBl.out.size))
    clear hb
    go_wp2_with fail
    go_ret
    exact ⟨rfl, HB1.out⟩
  · have HO := Lib.hid (finB_fin ((okC_iff zs p inc).2 g) hi)
    obtain ⟨q, hq⟩ : ∃ q, L / p = q := ⟨_, rfl⟩
    have hqL : q ≤ L := by rw [← hq]; exact Nat.div_le_self _ _
    rw [growI_fin hi, hq] at hG
    have r1 : (L : Int) / (p : Int) = (q : Int) := by rw [← hq, Int.natCast_ediv]
    have r1t : (L : Int).tdiv (p : Int) = (q : Int) := by rw [Int.tdiv_eq_ediv_of_nonneg (by omega)]; exact r1
    obtain ⟨m1, m2, _⟩ := hm.bd
    have r2 : IntKind.i64.wrap ((q : Int) * inc) = G := by rw [hG]; exact IntWalk.i64_in _ ⟨by omega, by omega⟩
    have r3 : ¬ p = 0 := by omega
    have r4 : ¬ (p : Int) = 0 := by omega
    clear h hB g hG hi hm hq
    go_enter Try.func153, Try.ntmps153
    go_wp2_with fail
    refine (finite_any a n cap zs p inc ⟨by omega, by omega⟩ ⟨by omega, by omega⟩ true HO.out _ H.out).mono ?_
    rintro e w1 ⟨rfl, hb⟩
    have HB1 := Lib.hid (HBl.out.trans (hb.mono HBl.out.size))
    obtain ⟨c0, c1, c2, f0, f1, f2⟩ := KF.out.below hb
    clear hb
    go_wp2_with fail
    go_quiet (fail)
    go_wp2_with fail
    go_ret
    exact ⟨rfl, HB1.out.drewN _⟩

/-! ## The closures -/

section
variable {fid : FuncId} {caps : Array Value} {T : Nat} {f : Nat → Int} {w : World} {bv bx : Nat} {x : Int}

/-- A choice between two numbers, which is handed over as a function. -/
def ChG (fc : FuncId) (ch : Int → Int → Int) : Prop := ∀ (x y : Int) (w : World), Mid x → Mid y → Calls Try.prog fc #[.int .i64 x, .int .i64 y] w fun e w' => e = .returned (.int .i64 (ch x y)) ∧ w' = w

end

end Go.Proofs.Ytjjaaknjdmijbaa

namespace Go.Proofs.Ytjjaaknjdmijbaa
open Go.RowKit
set_option linter.unusedSimpArgs false

theorem ClosG.congr {fid : FuncId} {caps : Array Value} {T : Nat} {f F : Nat → Int} {w : World} (h : ClosG fid caps T f w) (he : ∀ t, t < T → f t = F t) : ClosG fid caps T F w :=
  fun ti t v w' h1 h2 h3 h4 => h ti t v w' h1 h2 ((he t h2).trans h3) h4

end Go.Proofs.Ytjjaaknjdmijbaa
