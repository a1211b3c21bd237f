/- Contract of curve.reduced at finite curves, and of curve.Normal. By the verifier's side. -/
import Derived.Test.YtknimlpdpgpliaaMCurE
namespace Go.Proofs.Ytknimlpdpgpliaa
open Go.RowKit
set_option linter.unusedSimpArgs false

theorem Cur3.dr {w w' : World} {b : Nat} {x0 x1 x2 : Value} (h : Cur3 w b x0 x1 x2) (hd : ∃ m, w' = w.drewN m) : Cur3 w' b x0 x1 x2 := by
  obtain ⟨m, rfl⟩ := hd; exact h.drewN m
theorem RowZ.dr {w w' : World} {a : Option Addr} {n cap : Nat} {zs : List Int} (h : RowZ w a n cap zs) (hd : ∃ m, w' = w.drewN m) : RowZ w' a n cap zs := by
  obtain ⟨m, rfl⟩ := hd; exact h.drewN m
theorem below_dr {B : Nat} {u w w' : World} (h : Below B u w) (hd : ∃ m, w' = w.drewN m) : Below B u w' := by
  obtain ⟨m, rfl⟩ := hd; exact h.drewN m

end Go.Proofs.Ytknimlpdpgpliaa

namespace Go.Proofs.Ytknimlpdpgpliaa
open Go.RowKit
set_option linter.unusedSimpArgs false

/-- Whether two curves are written in the same way. -/
def sameB (zs : List Int) (p inc : Int) (ys : List Int) (q jnc : Int) : Bool := decide (zs = ys) && decide (p = q) && decide (inc = jnc)

theorem sameB_len {zs ys : List Int} {p inc q jnc : Int} (h : ¬ zs.length = ys.length) : sameB zs p inc ys q jnc = false := by
  unfold sameB; rw [decide_eq_false (show ¬ zs = ys from fun e => h (by rw [e])), Bool.false_and, Bool.false_and]
theorem sameB_per {zs ys : List Int} {p inc q jnc : Int} (h : ¬ p = q) : sameB zs p inc ys q jnc = false := by
  unfold sameB; rw [decide_eq_false h, Bool.and_false, Bool.false_and]
theorem sameB_inc {zs ys : List Int} {p inc q jnc : Int} (h : ¬ inc = jnc) : sameB zs p inc ys q jnc = false := by
  unfold sameB; rw [decide_eq_false h, Bool.and_false]
theorem sameB_at {zs ys : List Int} {p inc q jnc : Int} {i : Nat} (h : ¬ zs.getD i 0 = ys.getD i 0) : sameB zs p inc ys q jnc = false := by
  unfold sameB; rw [decide_eq_false (show ¬ zs = ys from fun e => h (by rw [e])), Bool.false_and, Bool.false_and]
theorem sameB_yes {zs ys : List Int} {p inc q jnc : Int} (hl : zs.length = ys.length) (hp : p = q) (hi : inc = jnc) (h : ∀ i, i < zs.length → zs.getD i 0 = ys.getD i 0) : sameB zs p inc ys q jnc = true := by
  unfold sameB; rw [decide_eq_true (list_ext_getD hl h), decide_eq_true hp, decide_eq_true hi]; rfl
set_option maxHeartbeats 1600000 in
theorem rsame_any (a : Option Addr) (n cap : Nat) (zs : List Int) (p inc : Int) (a2 : Option Addr) (n2 cap2 : Nat) (ys : List Int) (q jnc : Int) (b : Bool) (hb : sameB zs p inc ys q jnc = b) (w : World) (h : RowZ w a n cap zs) (h2 : RowZ w a2 n2 cap2 ys) :
    Calls Try.prog 19 #[curV a n cap p inc, curV a2 n2 cap2 q jnc] w (Says (.bool b) w) := by
  have hB : Below w.heap.size w ((w.alloc (.cells #[.slice a n cap, .int .i64 p, .int .i64 inc] 26)).alloc (.cells #[.slice a2 n2 cap2, .int .i64 q, .int .i64 jnc] 26)) :=
    ((Below.refl _ _).alloc (Nat.le_refl _) _).alloc (by simp) _
  have HBl := Lib.hid hB
  have H := Lib.hid (h.under hB)
  have H2 := Lib.hid (h2.under hB)
  have HB := Lib.hid hb
  have hn := h.sm
  have hn2 := h2.sm
  have hl := h.len
  have hl2 := h2.len
  subst hl hl2
  clear h h2 hb hB
  by_cases e1 : zs.length = ys.length
  · have t1 : ((zs.length : Int) != (ys.length : Int)) = false := by simp [e1]
    have E1 := Lib.hid e1
    by_cases e2 : p = q
    · have t2 : (p != q) = false := by simp [e2]
      by_cases e3 : inc = jnc
      · have t3 : (inc != jnc) = false := by simp [e3]
        have E := Lib.hid (And.intro e2 e3)
        have hle : zs.length ≤ ys.length := by omega
        clear e1 e2 e3
        go_enter Try.func19, Try.ntmps19
        go_wp2_with fail
        have KF := Lib.hid ((Cur3.new w (.slice a zs.length cap) (.int .i64 p) (.int .i64 inc) 26).alloc (.cells #[.slice a2 ys.length cap2, .int .i64 q, .int .i64 jnc] 26))
        have KG := Lib.hid (Cur3.new2 w (.slice a2 ys.length cap2) (.int .i64 q) (.int .i64 jnc) 26 (.cells #[.slice a zs.length cap, .int .i64 p, .int .i64 inc] 26))
        generalize (w.alloc (.cells #[.slice a zs.length cap, .int .i64 p, .int .i64 inc] 26)).alloc (.cells #[.slice a2 ys.length cap2, .int .i64 q, .int .i64 jnc] 26) = w0 at HBl H H2 KF KG ⊢
        go_loopw [5] (fun s5 wx => ∃ k : Nat, s5 = .int .i64 k ∧ k ≤ zs.length ∧ Hid (∀ i, i < k → zs.getD i 0 = ys.getD i 0) ∧ Hid (∃ m, wx = w0.drewN m)) (fun s5 _ => zs.length - (intOf s5).toNat)
        case atStart => exact ⟨0, rfl, Nat.zero_le _, fun i hi => absurd hi (Nat.not_lt_zero _), 0, rfl⟩
        case round =>
          obtain ⟨k, rfl, hk, hall, hdr⟩ := hrel
          obtain ⟨w1, rfl⟩ : ∃ u : World, u = wr := ⟨_, rfl⟩
          obtain ⟨c0, c1, c2, f0, f1, f2⟩ := KF.out.dr hdr.out
          obtain ⟨d0, d1, d2, g0, g1, g2⟩ := KG.out.dr hdr.out
          by_cases hlt : k < zs.length
          · obtain ⟨x, rfl, hcx⟩ := (H.out.dr hdr.out).cell k hlt
            obtain ⟨y, rfl, hcy⟩ := (H2.out.dr hdr.out).cell k (by omega)
            obtain ⟨v1, hv1⟩ : ∃ v, zs.getD k 0 = v := ⟨_, rfl⟩
            obtain ⟨v2, hv2⟩ : ∃ v, ys.getD k 0 = v := ⟨_, rfl⟩
            rw [hv1] at hcx
            rw [hv2] at hcy
            have HV := Lib.hid (And.intro hv1 hv2)
            have hky : (k : Int) < (ys.length : Int) := by omega
            clear hv1 hv2
            by_cases hd : v1 = v2
            · have hd' : (v1 != v2) = false := by simpa using hd
              have HD := Lib.hid hd
              clear hd
              go_wp2_with fail
              go_quiet (fail)
              go_wp2_with fail
              go_roundw
              case rel =>
                refine ⟨k + 1, by go_num, by omega, fun i hi => ?_, hdr_add hdr.out nq⟩
                by_cases he : i = k
                · subst he; rw [HV.out.1, HV.out.2]; exact HD.out
                · exact hall.out i (by omega)
              case measure => simp [intOf]; omega
            · have hd' : (v1 != v2) = true := by simpa using hd
              have HD := Lib.hid hd
              clear hd
              go_wp2_with fail
              go_quiet (fail)
              go_wp2_with fail
              go_ret
              refine ⟨?_, (below_dr HBl.out hdr.out).drewN nq⟩
              rw [← HB.out, sameB_at (i := k) (by rw [HV.out.1, HV.out.2]; exact HD.out)]; rfl
          · obtain rfl : k = zs.length := by omega
            go_wp2_with fail
            go_ret
            refine ⟨?_, below_dr HBl.out hdr.out⟩
            rw [← HB.out, sameB_yes E1.out E.out.1 E.out.2 hall.out]; rfl
      · have t3 : (inc != jnc) = true := by simpa using e3
        have e : b = false := by rw [← HB.out, sameB_inc e3]
        subst e
        clear e1 e2 e3
        go_enter Try.func19, Try.ntmps19
        go_wp2_with fail
        go_ret
        exact ⟨rfl, HBl.out⟩
    · have t2 : (p != q) = true := by simpa using e2
      have e : b = false := by rw [← HB.out, sameB_per e2]
      subst e
      clear e1 e2
      go_enter Try.func19, Try.ntmps19
      go_wp2_with fail
      go_ret
      exact ⟨rfl, HBl.out⟩
  · have t1 : ((zs.length : Int) != (ys.length : Int)) = true := by simp; omega
    have e : b = false := by rw [← HB.out, sameB_len e1]
    subst e
    clear e1
    go_enter Try.func19, Try.ntmps19
    go_wp2_with fail
    go_ret
    exact ⟨rfl, HBl.out⟩

end Go.Proofs.Ytknimlpdpgpliaa
