/- Contracts: the document's At and Value. By the verifier's side. -/
import Derived.Test.YtkienpbmoilheaaERefV
import Derived.Test.YtkienpbmoilheaaECurFCurG
import Derived.Test.YtkienpbmoilheaaEBaseApartPickKeepS
import Derived.WalkKit
import Derived.LoopTactic
import Derived.BigRegion
import Derived.Laws.ResultCell
namespace Go.Proofs.Ytkienpbmoilheaa
open Go.RowKit
set_option linter.unusedSimpArgs false

set_option maxHeartbeats 1600000 in
theorem rat_at (a : Option Addr) (n cap : Nat) (zs : List Int) (p : Nat) (inc : Int) (good : Good zs p inc) (ti : Int) (t : Nat) (hti : ti = t) (ht : t ≤ 4194304) (v : Int) (hv : atC zs p inc t = v) (w : World) (h : RowZ w a n cap zs) :
    Calls Try.prog 61 #[curV a n cap p inc, .int .i64 ti] w (Says (.int .i64 v) w) := by
  subst hti
  have hB := box_below w (.cells #[.slice a n cap, .int .i64 p, .int .i64 inc] 24)
  have HBl := Lib.hid hB
  have hrow := h.under hB
  have HV := Lib.hid hv
  have hlen := h.len
  have hfew := good.few
  have hp1 := good.p1
  have hp2 := good.p2
  have hp3 := good.p3
  have hi0 := good.i0
  have hi1 := good.i1
  have hn : n ≤ 400 := by omega
  have hn1 : 1 ≤ n := by omega
  have hpn : p ≤ n := by omega
  have hnp : decide (n < p) = false := by simp; omega
  clear hv h hB
  by_cases hlt : t < n
  · obtain ⟨x, rfl, hc⟩ := hrow.cell t hlt
    have e : zs.getD t 0 = v := by rw [← HV.out, atC_lt (by omega)]
    rw [e] at hc
    have r10 : decide (n ≤ t) = false := by simp; omega
    have r13 : (t : Int) < (n : Int) := by omega
    clear hrow good hlen e
    go_enter Try.func61, Try.ntmps61
    go_wp2_with fail
    go_ret
    exact ⟨rfl, HBl.out⟩
  · obtain ⟨i1', i2', i3'⟩ := idx_facts hp1 hpn (show n ≤ t by omega)
    obtain ⟨u, hu⟩ : ∃ u, t = n + u := ⟨t - n, by omega⟩
    obtain ⟨c, hc⟩ : ∃ c, u / p = c := ⟨_, rfl⟩
    have hcu : c ≤ u := by rw [← hc]; exact Nat.div_le_self _ _
    obtain ⟨M, hM⟩ : ∃ M, (c + 1) * p = M := ⟨_, rfl⟩
    rw [show t - n = u by omega, hc, hM] at i1' i2' i3'
    obtain ⟨i, hi⟩ : ∃ i, t - M = i := ⟨_, rfl⟩
    rw [hi] at i2' i3'
    obtain ⟨x, rfl, hcell⟩ := hrow.cell i i3'
    obtain ⟨z, hzz⟩ : ∃ z, zs.getD i 0 = z := ⟨_, rfl⟩
    rw [hzz] at hcell
    have r1 : (t : Int) - (n : Int) = (u : Int) := by omega
    have r2 : (u : Int) / (p : Int) = (c : Int) := by rw [← hc, Int.natCast_ediv]
    have r3 : IntKind.i64.wrap (((c : Int) + 1) * (p : Int)) = (M : Int) := by
      rw [show ((c : Int) + 1) * (p : Int) = (M : Int) by rw [← hM]; simp]
      exact IntWalk.i64_in _ ⟨by omega, by omega⟩
    have r4 : (t : Int) - (M : Int) = (i : Int) := by omega
    have r5 : IntKind.i64.wrap (i : Int) = (i : Int) := IntWalk.i64_in _ ⟨by omega, by omega⟩
    have r8 : (0 : Int) ≤ (i : Int) := by omega
    have r9 : (i : Int) < (n : Int) := by omega
    have r10 : decide (n ≤ t) = true := by simp; omega
    have r13 : ¬ (t : Int) < (n : Int) := by omega
    have r14 : decide (t < n) = false := by simp; omega
    have r11 : ¬ (p : Int) = 0 := by omega
    have r12 : (1 : Int) ≤ (p : Int) := by omega
    have HI := Lib.hid (And.intro hc (And.intro hM (And.intro hi (And.intro hzz hu))))
    have i2'' := i2'
    by_cases hz : zs.getD (zs.length - 1) 0 = infV
    · obtain ⟨hp, hz0⟩ := good.tailI hz
      have e : v = 4611686018427387904 := by rw [← HV.out, atC_inf hz (by omega) (by omega)]
      have ez : z = 4611686018427387904 := by rw [← hzz, show i = zs.length - 1 by omega]; exact hz
      have ez' : (z == 4611686018427387904) = true := by simpa using ez
      subst e
      clear hrow good hlen hz hp hz0 ez hc hM hi hzz hu i1' i2' i2'' r14
      go_enter Try.func61, Try.ntmps61
      go_wp2_with fail
      go_ret
      exact ⟨rfl, HBl.out⟩
    · have e : zs.getD (t - ((t - n) / p + 1) * p) 0 + (((t - n) / p + 1 : Nat) : Int) * inc = v := by rw [← HV.out, atC_ge hz (by omega), hlen]
      rw [show t - n = u by omega, hc, hM, hi, hzz] at e
      have hsm := good.small hz (show i < zs.length by omega)
      rw [hzz] at hsm
      obtain ⟨G, hG⟩ : ∃ G, ((c : Int) + 1) * inc = G := ⟨_, rfl⟩
      have e2 : z + G = v := by rw [← e, ← hG]; rfl
      have hG0 : 0 ≤ G ∧ G ≤ 4194305 * 1073741824 := by
        rw [← hG]
        have h1 : ((c : Int) + 1) * inc ≤ 4194305 * 1073741824 := Int.mul_le_mul (by omega) hi1 hi0 (by omega)
        exact ⟨Int.mul_nonneg (by omega) hi0, h1⟩
      have hz1 := hsm.1
      have hz2 := hsm.2
      have hG1 := hG0.1
      have hG2 := hG0.2
      have ez' : (z == 4611686018427387904) = false := by simp; omega
      have r6 : IntKind.i64.wrap (((c : Int) + 1) * inc) = G := by rw [hG]; exact IntWalk.i64_in _ ⟨by omega, by omega⟩
      have r7 : IntKind.i64.wrap (z + G) = v := by rw [e2]; exact IntWalk.i64_in _ ⟨by omega, by omega⟩
      have r77 : z + G = v := e2
      have HE := Lib.hid r77
      clear hrow good hlen hz e hc hM hi hzz hG e2 hu hsm hG0 i1' i2' i2'' r14 r77
      go_enter Try.func61, Try.ntmps61
      go_wp2_with fail
      go_ret
      exact ⟨ret_int (by first | exact HE.out | rfl), HBl.out⟩

end Go.Proofs.Ytkienpbmoilheaa
