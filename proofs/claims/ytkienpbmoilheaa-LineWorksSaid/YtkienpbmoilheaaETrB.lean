/- Validate of package trace and of the document. By the verifier's side. -/
import Derived.Test.YtkienpbmoilheaaETrA
namespace Go.Proofs.Ytkienpbmoilheaa
open Go.RowKit
set_option linter.unusedSimpArgs false
set_option linter.unusedVariables false

/-- What the loop of Validate knows at place k. -/
def VLoop (l : List Pk) (c : Int) (k : Nat) : Prop := ∃ p : Int, vgo 2 7 p (l.drop k) = c ∧ (k = 0 ∧ p = 0 ∨ ∃ q, l[k - 1]? = some q ∧ p = q.t ∧ 1 ≤ k)
theorem VLoop.start {l : List Pk} {c : Int} (h : vcode l = c) (hl : ¬ 60 < l.length) : VLoop l c 0 := ⟨0, by unfold vcode at h; rw [if_neg hl] at h; exact h, .inl ⟨rfl, rfl⟩⟩
theorem VLoop.bad {l : List Pk} {c : Int} {k : Nat} {q : Pk} (h : VLoop l c k) (hq : l[k]? = some q) (hb : okP q = false) : c = 2 := by
  obtain ⟨p, h1, _⟩ := h
  rw [drop_at hq, vgo, if_neg (by rw [hb]; decide)] at h1
  exact h1.symm
theorem VLoop.first {l : List Pk} {c : Int} {q : Pk} (h : VLoop l c 0) (hq : l[0]? = some q) (hb : okP q = true) : VLoop l c 1 := by
  obtain ⟨p, h1, h2⟩ := h
  rcases h2 with ⟨_, rfl⟩ | ⟨_, _, _, h2⟩
  · have := (okP_iff q).1 hb
    rw [drop_at hq, vgo, if_pos hb, if_neg (by omega)] at h1
    exact ⟨q.t, h1, .inr ⟨q, hq, rfl, Nat.le_refl _⟩⟩
  · omega
theorem VLoop.next {l : List Pk} {c : Int} {k : Nat} {q q' : Pk} (h : VLoop l c (k + 1)) (hq : l[k + 1]? = some q) (hq' : l[k]? = some q') (hb : okP q = true) : (q.t < q'.t → c = 7) ∧ (¬ q.t < q'.t → VLoop l c (k + 2)) := by
  obtain ⟨p, h1, h2⟩ := h
  rcases h2 with ⟨h0, _⟩ | ⟨r, hr, rfl, _⟩
  · omega
  · rw [Nat.add_sub_cancel, hq'] at hr
    cases hr
    rw [drop_at hq, vgo, if_pos hb] at h1
    refine ⟨fun hl => by rw [if_pos hl] at h1; exact h1.symm, fun hl => ?_⟩
    rw [if_neg hl] at h1
    exact ⟨q.t, h1, .inr ⟨q, hq, rfl, by omega⟩⟩
theorem VLoop.fin {l : List Pk} {c : Int} (h : VLoop l c l.length) : c = 0 := by
  obtain ⟨p, h1, _⟩ := h
  rw [List.drop_length] at h1
  exact h1.symm

set_option maxRecDepth 100000 in
set_option maxHeartbeats 3200000 in
/-- Validate of package trace, of whatever list. -/
theorem validate_any (a : Option Addr) (n cap : Nat) (l : List Pk) (c : Int) (hc : vcode l = c) (w : World) (h : PkR w a n cap l) :
    Calls Try.prog 265 #[.slice a n cap] w (Says (.int .i64 c) w) := by
  have hsm := h.sm
  have hlen := h.len
  by_cases h60 : 60 < n
  · obtain rfl : c = 3 := by rw [← hc]; unfold vcode; rw [if_pos (by rw [hlen]; exact h60)]
    have H6 : 60 < (n : Int) := by omega
    clear hc h
    go_enter Try.func265, Try.ntmps265
    go_wp2_with fail
    go_ret
    exact ⟨rfl, Below.refl _ _⟩
  · have HV := Lib.hid (VLoop.start hc (by rw [hlen]; exact h60))
    have H := Lib.hid h
    have HL := Lib.hid hlen
    have H6 : ¬ 60 < (n : Int) := by omega
    clear h hc hlen
    go_enter Try.func265, Try.ntmps265
    go_wp2_with fail
    go_loopw [10] (fun vi wx => ∃ k : Nat, vi = .int .i64 k ∧ k ≤ n ∧ Hid (VLoop l c k) ∧ Hid (Below w.heap.size w wx)) (fun vi _ => n - (intOf vi).toNat)
    case atStart => exact ⟨0, by go_num, Nat.zero_le _, HV, Below.refl _ _⟩
    case round =>
      obtain ⟨k, rfl, hk, hV, HW⟩ := hrel
      obtain ⟨wk, rfl⟩ : ∃ u : World, u = wr := ⟨_, rfl⟩
      by_cases hlt : k < n
      · have hlI : (k : Int) < (n : Int) := by omega
        obtain ⟨B, off, q, ha, hcs, hq, hbd⟩ := (H.out.under HW.out).at hlt
        obtain ⟨c0, c1, c2⟩ := hcs k q hq
        obtain ⟨⟨b1, b2⟩, ⟨b3, b4⟩, b5, b6⟩ := hbd
        obtain ⟨o1, ho1⟩ : ∃ o, (decide (q.f < 0) || decide (59 < q.f)) = o := ⟨_, rfl⟩
        obtain ⟨o2, ho2⟩ : ∃ o, (decide (q.t < 0) || decide (2000 < q.t)) = o := ⟨_, rfl⟩
        obtain ⟨o3, ho3⟩ : ∃ o, (decide (q.s < 1) || decide (1500 < q.s)) = o := ⟨_, rfl⟩
        have hok : okP q = (!o1 && !o2 && !o3) := by
          rw [Bool.eq_iff_iff, okP_iff, ← ho1, ← ho2, ← ho3]
          simp; omega
        have HO := Lib.hid (And.intro ho1 (And.intro ho2 ho3))
        have HK := Lib.hid (And.intro hq (And.intro hcs hok))
        clear hcs ho1 ho2 ho3 hq hok
        have HA := Lib.hid ha
        rw [ha]
        clear ha
        go_upto_region 6 with fail
        obtain ⟨u, hu⟩ : ∃ u : World, wk.alloc (.cells #[.int .i64 q.f, .int .i64 q.t, .int .i64 q.s] 103) = u := ⟨_, rfl⟩
        have hb : Below wk.heap.size wk u := by rw [← hu]; exact (Below.refl _ _).alloc (Nat.le_refl _) _
        obtain ⟨n0, n1, n2⟩ : u.cell? ⟨wk.heap.size, 0, none⟩ = some (.int .i64 q.f) ∧ u.cell? ⟨wk.heap.size, 1, none⟩ = some (.int .i64 q.t) ∧ u.cell? ⟨wk.heap.size, 2, none⟩ = some (.int .i64 q.s) := by rw [← hu]; exact ⟨cell_new13 rfl, cell_new13 rfl, cell_new13 rfl⟩
        have HU := Lib.hid (HW.out.trans (hb.mono HW.out.size))
        have HB := Lib.hid hb
        rw [hu]
        clear hu hb c0 c1 c2
        have bad : (okP q = false) → Says (.int .i64 c) w (.returned (.int .i64 2)) u := fun hbq => by rw [hV.out.bad HK.out.1 hbq]; exact ⟨rfl, HU.out⟩
        have BAD := Lib.hid bad
        clear bad
        cases o1
        case true =>
          go_wp2_with (first
            | (go_at_call 298; with_reducible refine (outside13 q.f 0 59 _ HO.out.1 _).mono ?_; rintro e w1 ⟨rfl, rfl⟩)
            | (go_at_call 298; with_reducible refine (outside13 q.t 0 2000 _ HO.out.2.1 _).mono ?_; rintro e w1 ⟨rfl, rfl⟩)
            | (go_at_call 298; with_reducible refine (outside13 q.s 1 1500 _ HO.out.2.2 _).mono ?_; rintro e w1 ⟨rfl, rfl⟩))
          go_ret
          exact BAD.out (by rw [HK.out.2.2]; rfl)
        cases o2
        case true =>
          go_wp2_with (first
            | (go_at_call 298; with_reducible refine (outside13 q.f 0 59 _ HO.out.1 _).mono ?_; rintro e w1 ⟨rfl, rfl⟩)
            | (go_at_call 298; with_reducible refine (outside13 q.t 0 2000 _ HO.out.2.1 _).mono ?_; rintro e w1 ⟨rfl, rfl⟩)
            | (go_at_call 298; with_reducible refine (outside13 q.s 1 1500 _ HO.out.2.2 _).mono ?_; rintro e w1 ⟨rfl, rfl⟩))
          go_ret
          exact BAD.out (by rw [HK.out.2.2]; rfl)
        cases o3
        case true =>
          go_wp2_with (first
            | (go_at_call 298; with_reducible refine (outside13 q.f 0 59 _ HO.out.1 _).mono ?_; rintro e w1 ⟨rfl, rfl⟩)
            | (go_at_call 298; with_reducible refine (outside13 q.t 0 2000 _ HO.out.2.1 _).mono ?_; rintro e w1 ⟨rfl, rfl⟩)
            | (go_at_call 298; with_reducible refine (outside13 q.s 1 1500 _ HO.out.2.2 _).mono ?_; rintro e w1 ⟨rfl, rfl⟩))
          go_ret
          exact BAD.out (by rw [HK.out.2.2]; rfl)
        · have hokt := HK.out.2.2
          rcases Nat.eq_zero_or_pos k with hk0 | hk0
          · have HN := Lib.hid (show VLoop l c (k + 1) from by have := HK.out.1; have := hV.out; subst hk0; exact VLoop.first ‹_› ‹_› (by rw [hokt]; rfl))
            have hk0I : ¬ (0 : Int) < (k : Int) := by omega
            clear hokt
            go_wp2_with (first
            | (go_at_call 298; with_reducible refine (outside13 q.f 0 59 _ HO.out.1 _).mono ?_; rintro e w1 ⟨rfl, rfl⟩)
            | (go_at_call 298; with_reducible refine (outside13 q.t 0 2000 _ HO.out.2.1 _).mono ?_; rintro e w1 ⟨rfl, rfl⟩)
            | (go_at_call 298; with_reducible refine (outside13 q.s 1 1500 _ HO.out.2.2 _).mono ?_; rintro e w1 ⟨rfl, rfl⟩))
            go_quiet (fail)
            go_wp2_with fail
            go_roundw
            case rel => exact ⟨k + 1, by go_num, by omega, HN, HU.out.drewN _⟩
            case measure => simp [intOf]; omega
          · obtain ⟨m, rfl⟩ : ∃ m, k = m + 1 := ⟨k - 1, by omega⟩
            have hlm : m < l.length := by rw [HL.out]; omega
            obtain ⟨q', hq'⟩ : ∃ q', l[m]? = some q' := ⟨_, List.getElem?_eq_getElem hlm⟩
            have HN := Lib.hid (hV.out.next HK.out.1 hq' (by rw [hokt]; rfl))
            obtain ⟨d0, d1, d2⟩ := (HK.out.2.1.under HB.out) m q' hq'
            have hmI : 0 < (m : Int) + 1 := by omega
            have hm2 : (m : Int) < (n : Int) := by omega
            clear hq' hokt hlm d0 d2
            by_cases ht : q.t < q'.t
            · go_wp2_with (first
            | (go_at_call 298; with_reducible refine (outside13 q.f 0 59 _ HO.out.1 _).mono ?_; rintro e w1 ⟨rfl, rfl⟩)
            | (go_at_call 298; with_reducible refine (outside13 q.t 0 2000 _ HO.out.2.1 _).mono ?_; rintro e w1 ⟨rfl, rfl⟩)
            | (go_at_call 298; with_reducible refine (outside13 q.s 1 1500 _ HO.out.2.2 _).mono ?_; rintro e w1 ⟨rfl, rfl⟩))
              go_quiet (fail)
              go_wp2_with fail
              go_ret
              exact ⟨by rw [show c = 7 from HN.out.1 ht]; rfl, HU.out.drewN _⟩
            · go_wp2_with (first
            | (go_at_call 298; with_reducible refine (outside13 q.f 0 59 _ HO.out.1 _).mono ?_; rintro e w1 ⟨rfl, rfl⟩)
            | (go_at_call 298; with_reducible refine (outside13 q.t 0 2000 _ HO.out.2.1 _).mono ?_; rintro e w1 ⟨rfl, rfl⟩)
            | (go_at_call 298; with_reducible refine (outside13 q.s 1 1500 _ HO.out.2.2 _).mono ?_; rintro e w1 ⟨rfl, rfl⟩))
              go_quiet (fail)
              go_wp2_with fail
              go_roundw
              case rel => exact ⟨m + 1 + 1, by go_num, by omega, HN.out.2 ht, HU.out.drewN _⟩
              case measure => simp [intOf]; omega
      · obtain rfl : k = n := by omega
        have hkI : ¬ (k : Int) < (k : Int) := by omega
        go_wp2_with fail
        go_ret
        exact ⟨by rw [show c = 0 from VLoop.fin (by rw [HL.out]; exact hV.out)]; rfl, HW.out⟩
end Go.Proofs.Ytkienpbmoilheaa
