/- The sort of package slices at packets: the comparison and the insertion sort. By the verifier's side. -/
import Derived.Test.YtknimlpdpgpliaaTTrE
import Derived.Test.YtknimlpdpgpliaaTTrMTrN
import Derived.Shelf.SlSortCmp.QuietGrown
namespace Go.Proofs.Ytknimlpdpgpliaa
open Go.RowKit Go.Sort
set_option linter.unusedSimpArgs false
set_option linter.unusedVariables false

/-- What Compare says. -/
def sgn (a b : Int) : Int := if a < b then -1 else if b < a then 1 else 0
theorem sgn_lt {a b : Int} (h : a < b) : sgn a b < 0 := by unfold sgn; rw [if_pos h]; decide
theorem sgn_ge {a b : Int} (h : ¬ a < b) : ¬ sgn a b < 0 := by unfold sgn; rw [if_neg h]; split <;> decide

theorem nan13 (a : Int) (w : World) : Calls Try.prog 148 #[.int .i64 a] w fun e w' => e = .returned (.bool false) ∧ w' = w := by
  go_enter Try.func148, Try.ntmps148
  go_wp2_with fail
  go_ret
  exact ⟨rfl, rfl⟩
set_option maxHeartbeats 800000 in
theorem compare13 (a b : Int) (w : World) : Calls Try.prog 92 #[.int .i64 a, .int .i64 b] w fun e w' => e = .returned (.int .i64 (sgn a b)) ∧ w' = w := by
  rcases Int.lt_trichotomy a b with h | h | h
  · rw [show sgn a b = -1 from by unfold sgn; rw [if_pos h]]
    go_enter Try.func92, Try.ntmps92
    go_wp2_with (first | (go_at_call 148; with_reducible refine (nan13 a _).mono ?_; rintro e w1 ⟨rfl, rfl⟩) | (go_at_call 148; with_reducible refine (nan13 b _).mono ?_; rintro e w1 ⟨rfl, rfl⟩))
    go_ret
    exact ⟨rfl, rfl⟩
  · subst h
    rw [show sgn a a = 0 from by unfold sgn; rw [if_neg (by omega), if_neg (by omega)]]
    go_enter Try.func92, Try.ntmps92
    go_wp2_with (go_at_call 148; with_reducible refine (nan13 a _).mono ?_; rintro e w1 ⟨rfl, rfl⟩)
    go_ret
    exact ⟨rfl, rfl⟩
  · rw [show sgn a b = 1 from by unfold sgn; rw [if_neg (by omega), if_pos h]]
    have h2 : ¬ a < b := by omega
    go_enter Try.func92, Try.ntmps92
    go_wp2_with (first | (go_at_call 148; with_reducible refine (nan13 a _).mono ?_; rintro e w1 ⟨rfl, rfl⟩) | (go_at_call 148; with_reducible refine (nan13 b _).mono ?_; rintro e w1 ⟨rfl, rfl⟩))
    go_ret
    exact ⟨rfl, rfl⟩
set_option maxHeartbeats 800000 in
/-- The closure of Order: it boxes its packets. -/
theorem cmp13 (x y : Pk) (w : World) : Calls Try.prog 91 #[.agg #[.int .i64 x.f, .int .i64 x.t, .int .i64 x.s], .agg #[.int .i64 y.f, .int .i64 y.t, .int .i64 y.s]] w fun e w' => e = .returned (.int .i64 (sgn x.t y.t)) ∧ ∃ q os', w' = grow (w.drewN q) os' := by
  go_enter Try.func91, Try.ntmps91
  go_wp2_with fail
  refine (compare13 x.t y.t _).mono ?_
  rintro e w1 ⟨rfl, rfl⟩
  go_wp2_with fail
  go_ret
  exact ⟨rfl, 0, #[_, _], by rw [alloc_eq_grow, alloc_eq_grow, grow_grow]; rfl⟩

theorem below_grown (w : World) (n : Nat) (os : Array Obj) : Below w.heap.size w (grow (w.drewN n) os) :=
  ⟨rfl, rfl, rfl, by rw [size_grow]; exact Nat.le_add_right _ _, fun k hk => heap_grow_old (w.drewN n) os hk⟩
theorem PkO.grown {u : World} {B off : Nat} {l : List Pk} (h : PkO u B off l) (n : Nat) (os : Array Obj) : PkO (grow (u.drewN n) os) B off l := h.under (below_grown u n os)
theorem PkO.gcells {u : World} {B off : Nat} {l : List Pk} (h : PkO u B off l) {k : Nat} {q : Pk} (hq : l[k]? = some q) :
    (∀ n os, (grow (u.drewN n) os).cell? ⟨B, off + k * 3, none⟩ = some (.int .i64 q.f)) ∧ (∀ n os, (grow (u.drewN n) os).cell? ⟨B, off + k * 3 + 1, none⟩ = some (.int .i64 q.t)) ∧ (∀ n os, (grow (u.drewN n) os).cell? ⟨B, off + k * 3 + 2, none⟩ = some (.int .i64 q.s)) :=
  ⟨fun n os => ((h.grown n os).cells k q hq).1, fun n os => ((h.grown n os).cells k q hq).2.1, fun n os => ((h.grown n os).cells k q hq).2.2⟩
theorem cmp13_g (x y : Pk) (u : World) (n : Nat) (os : Array Obj) : Calls Try.prog 91 #[.agg #[.int .i64 x.f, .int .i64 x.t, .int .i64 x.s], .agg #[.int .i64 y.f, .int .i64 y.t, .int .i64 y.s]] (grow (u.drewN n) os) fun e w' => e = .returned (.int .i64 (sgn x.t y.t)) ∧ ∃ q os', w' = grow ((grow (u.drewN n) os).drewN q) os' := cmp13 x y _

set_option maxRecDepth 100000 in
set_option maxHeartbeats 3200000 in
theorem insertion13 (B off n cap a b : Nat) (L L' : List Pk) (hI : InsO L' a b n 1 L) (w : World) (h : PkO w B off L) (hn : n ≤ 1000) (hab : a ≤ b) :
    Calls Try.prog 165 #[.slice (some ⟨B, off, none⟩) n cap, .int .i64 a, .int .i64 b, .func (.func 91) #[] #[]] w (Sorts B off L' w) := by
  have H := Lib.hid (And.intro h hI)
  have hbn := hI.len.2
  have eg : ∀ args w, (callFunc 91 args).run Try.prog w = .ok (.enter 91 args) w := enters_of Try.func91 (by kernel_rfl) rfl
  have mixed : Try.prog.follows .mixedOrders = true := by kernel_rfl
  clear h hI
  go_enter Try.func165, Try.ntmps165
  go_wp2_with fail
  go_loopw [8] (fun vi wx => ∃ (i t : Nat) (y : List Pk), vi = .int .i64 i ∧ i = a + t ∧ i ≤ b + 1 ∧ Hid (PkO wx B off y ∧ InsO L' a b n t y) ∧ Hid (Apart B w wx)) (fun vi _ => b + 1 - (intOf vi).toNat)
  case atStart => exact ⟨a + 1, 1, L, by go_num, rfl, by omega, H, Apart.refl _ _⟩
  case round =>
    obtain ⟨i, t, y, rfl, hit, hib, HO, HA⟩ := hrel
    obtain ⟨wk, rfl⟩ : ∃ u : World, u = wr := ⟨_, rfl⟩
    by_cases hlt : i < b
    · have hlI : (i : Int) < (b : Int) := by omega
      obtain ⟨x, L1, hL1, hO1⟩ := HO.out.2.next (by omega)
      rw [← hit] at hL1
      have H1 := Lib.hid hO1
      have HI := Lib.hid (And.intro HO.out.1 hL1)
      have HIT := Lib.hid hit
      have hin : i < n := hL1.bounds.2.1
      clear hL1 hO1 HO hit
      go_wp2_with fail
      go_loopw [9] (fun vj wx => ∃ (j : Nat) (y : List Pk), vj = .int .i64 j ∧ j ≤ i ∧ Hid (PkO wx B off y ∧ InsL L1 a n j y x) ∧ Hid (Apart B w wx)) (fun vj _ => (intOf vj).toNat)
      case atStart => exact ⟨i, y, rfl, Nat.le_refl _, HI, HA⟩
      case round =>
        obtain ⟨j, z, rfl, hji, HJ, HB⟩ := hrel
        obtain ⟨wj, rfl⟩ : ∃ u : World, u = wr := ⟨_, rfl⟩
        obtain ⟨ba, bj, bz, bx⟩ := HJ.out.2.bounds
        have HX := Lib.hid bx
        have HZ := Lib.hid bz
        clear bx bz
        by_cases hja : a < j
        · obtain ⟨m, rfl⟩ : ∃ m, j = m + 1 := ⟨j - 1, by omega⟩
          obtain ⟨p, hp⟩ : ∃ p, z[m]? = some p := ⟨_, List.getElem?_eq_getElem (by rw [HZ.out]; omega)⟩
          obtain ⟨c0, c1, c2⟩ := HJ.out.1.gcells HX.out
          obtain ⟨d0, d1, d2⟩ := HJ.out.1.gcells hp
          have hjI : (a : Int) < (m : Int) + 1 := by omega
          have hmn : (m : Int) + 1 < (n : Int) := by omega
          have hmn2 : (m : Int) < (n : Int) := by omega
          have e0 : ((m : Int) + 1).toNat = m + 1 := by omega
          have p0 : (0 : Int) ≤ (m : Int) + 1 := by omega
          have hwp : IntKind.i64.wrap (m : Int) = (m : Int) := IntWalk.i64_in _ ⟨by omega, by omega⟩
          have hcg := cmp13_g x p wj
          have HP := Lib.hid hp
          clear hp
          by_cases hlv : x.t < p.t
          · have hs := sgn_lt hlv
            have hst := Lib.hid (HJ.out.2.step (by omega) HP.out hlv)
            generalize sgn x.t p.t = sg at hs hcg
            go_wp2_with fail
            go_quiet_grown (first | (go_at_fn 91; refine Calls.grown_of (hcg _ _)) | (go_at_call 91; refine Calls.grown_of (hcg _ _)))
            have HW2 := Lib.hid (And.intro (HJ.out.1.grown nq osq) (HB.out.trans (below_apart (below_grown wj nq osq))))
            clear c0 c1 c2 d0 d1 d2 hcg
            generalize grow (wj.drewN nq) osq = wq at HW2 ⊢
            obtain ⟨c0, c1, c2⟩ := HW2.out.1.cells _ _ HX.out
            obtain ⟨d0, d1, d2⟩ := HW2.out.1.cells _ _ HP.out
            have hf := HW2.out.1.frozen
            have gg1 : ¬ off + (m + 1) * 3 + 1 = off + m * 3 := by omega
            have gg2 : ¬ off + (m + 1) * 3 + 2 = off + m * 3 := by omega
            have gg3 : ¬ off + (m + 1) * 3 = off + m * 3 + 1 := by omega
            have gg4 : ¬ off + (m + 1) * 3 = off + m * 3 + 2 := by omega
            have gg5 : ¬ off + m * 3 + 1 = off + (m + 1) * 3 := by omega
            have gg6 : ¬ off + m * 3 + 2 = off + (m + 1) * 3 := by omega
            have gg7 : ¬ off + m * 3 = off + (m + 1) * 3 + 1 := by omega
            have gg8 : ¬ off + m * 3 = off + (m + 1) * 3 + 2 := by omega
            go_wp2_with fail
            go_region
            all_goals go_wp2_with fail
            go_roundw
            case rel =>
              refine ⟨m, (z.set (m + 1) p).set m x, by go_num, by omega, ⟨?_, hst.out⟩, ?_⟩
              · exact ((HW2.out.1.set (by rw [HZ.out]; omega) p).set (by rw [List.length_set, HZ.out]; omega) x).drew
              · exact ((HW2.out.2.set3 _ _ _ _ _ _).set3 _ _ _ _ _ _).drew
            case measure => first | (simp [intOf]; done) | (simp [intOf]; omega)
          · have hs := sgn_ge hlv
            have hst := Lib.hid (HJ.out.2.stop (.inr ⟨p, HP.out, hlv⟩))
            generalize sgn x.t p.t = sg at hs hcg
            go_wp2_with fail
            go_quiet_grown (first | (go_at_fn 91; refine Calls.grown_of (hcg _ _)) | (go_at_call 91; refine Calls.grown_of (hcg _ _)))
            have HW2 := Lib.hid (And.intro (HJ.out.1.grown nq osq) (HB.out.trans (below_apart (below_grown wj nq osq))))
            clear c0 c1 c2 d0 d1 d2 hcg
            generalize grow (wj.drewN nq) osq = wq at HW2 ⊢
            go_wp2_with fail
            go_roundw
            case rel => exact ⟨i + 1, t + 1, L1, by go_num, by have := HIT.out; omega, by omega, ⟨by rw [← hst.out]; exact HW2.out.1, H1.out⟩, HW2.out.2⟩
            case measure => first | (simp [intOf]; done) | (simp [intOf]; omega)
        · have hst := Lib.hid (HJ.out.2.stop (.inl (by omega)))
          have hjI : ¬ (a : Int) < (j : Int) := by omega
          go_wp2_with fail
          go_quiet (fail)
          go_wp2_with fail
          go_roundw
          case rel => exact ⟨i + 1, t + 1, L1, by go_num, by have := HIT.out; omega, by omega, ⟨by rw [← hst.out]; exact HJ.out.1.drewN _, H1.out⟩, HB.out.drewN _⟩
          case measure => first | (simp [intOf]; done) | (simp [intOf]; omega)
    · have hlI : ¬ (i : Int) < (b : Int) := by omega
      go_wp2_with fail
      go_end0
      refine ⟨rfl, HA.out, ?_⟩
      rw [← HO.out.2.fin (by omega)]
      exact HO.out.1

end Go.Proofs.Ytknimlpdpgpliaa
