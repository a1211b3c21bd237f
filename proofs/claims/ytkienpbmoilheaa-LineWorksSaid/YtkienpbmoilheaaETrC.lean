/- Validate of the document, and what else it says of traces. By the verifier's side. -/
import Derived.Test.YtkienpbmoilheaaETrB
namespace Go.Proofs.Ytkienpbmoilheaa
open Go.RowKit
set_option linter.unusedSimpArgs false
set_option linter.unusedVariables false

set_option maxRecDepth 100000 in
set_option maxHeartbeats 3200000 in
/-- Validate of the document, of whatever list. -/
theorem rvalidate_any (a : Option Addr) (n cap : Nat) (l : List Pk) (c : Int) (hc : vcode l = c) (w : World) (h : PkR w a n cap l) :
    Calls Try.prog 185 #[.slice a n cap] w (Says (.int .i64 c) w) := by
  have hsm := h.sm
  have hlen := h.len
  by_cases h60 : 60 < n
  · obtain rfl : c = 3 := by rw [← hc]; unfold vcode; rw [if_pos (by rw [hlen]; exact h60)]
    have H6 : 60 < (n : Int) := by omega
    clear hc h
    go_enter Try.func185, Try.ntmps185
    go_wp2_with fail
    go_ret
    exact ⟨rfl, Below.refl _ _⟩
  · have HV := Lib.hid (VLoop.start hc (by rw [hlen]; exact h60))
    have H := Lib.hid h
    have HL := Lib.hid hlen
    have H6 : ¬ 60 < (n : Int) := by omega
    clear h hc hlen
    go_enter Try.func185, Try.ntmps185
    go_wp2_with fail
    go_loopw [3] (fun vi wx => ∃ k : Nat, vi = .int .i64 k ∧ k ≤ n ∧ Hid (VLoop l c k) ∧ Hid (Below w.heap.size w wx)) (fun vi _ => n - (intOf vi).toNat)
    case atStart => exact ⟨0, by go_num, Nat.zero_le _, HV, Below.refl _ _⟩
    case round =>
      obtain ⟨k, rfl, hk, hV, HW⟩ := hrel
      obtain ⟨wk, rfl⟩ : ∃ u : World, u = wr := ⟨_, rfl⟩
      by_cases hlt : k < n
      · have hlI : (k : Int) < (n : Int) := by omega
        obtain ⟨B, off, q, ha, hcs, hq, hbd⟩ := (H.out.under HW.out).at hlt
        obtain ⟨c0, c1, c2⟩ := hcs k q hq
        obtain ⟨⟨b1, b2⟩, ⟨b3, b4⟩, b5, b6⟩ := hbd
        have HK := Lib.hid (And.intro hq hcs)
        clear hcs hq
        have HA := Lib.hid ha
        rw [ha]
        clear ha
        go_upto_region 7 with fail
        obtain ⟨u, hu⟩ : ∃ u : World, wk.alloc (.cells #[.int .i64 q.f, .int .i64 q.t, .int .i64 q.s] 103) = u := ⟨_, rfl⟩
        have hb : Below wk.heap.size wk u := by rw [← hu]; exact (Below.refl _ _).alloc (Nat.le_refl _) _
        obtain ⟨n0, n1, n2⟩ : u.cell? ⟨wk.heap.size, 0, none⟩ = some (.int .i64 q.f) ∧ u.cell? ⟨wk.heap.size, 1, none⟩ = some (.int .i64 q.t) ∧ u.cell? ⟨wk.heap.size, 2, none⟩ = some (.int .i64 q.s) := by rw [← hu]; exact ⟨cell_new13 rfl, cell_new13 rfl, cell_new13 rfl⟩
        have HU := Lib.hid (HW.out.trans (hb.mono HW.out.size))
        have HB := Lib.hid hb
        rw [hu]
        clear hu hb c0 c1 c2
        have bad : (okP q = false) → Says (.int .i64 c) w (.returned (.int .i64 2)) u := fun hbq => by rw [hV.out.bad HK.out.1 hbq]; exact ⟨rfl, HU.out⟩
        have BAD := Lib.hid bad
        clear bad
        by_cases f0 : q.f < 0
        · go_wp2_with fail
          go_ret
          exact BAD.out (by rw [Bool.eq_false_iff, ne_eq, okP_iff]; omega)
        by_cases f1 : 60 ≤ q.f
        · go_wp2_with fail
          go_ret
          exact BAD.out (by rw [Bool.eq_false_iff, ne_eq, okP_iff]; omega)
        by_cases f2 : q.t < 0
        · go_wp2_with fail
          go_ret
          exact BAD.out (by rw [Bool.eq_false_iff, ne_eq, okP_iff]; omega)
        by_cases f3 : 2000 < q.t
        · go_wp2_with fail
          go_ret
          exact BAD.out (by rw [Bool.eq_false_iff, ne_eq, okP_iff]; omega)
        by_cases f4 : q.s < 1
        · go_wp2_with fail
          go_ret
          exact BAD.out (by rw [Bool.eq_false_iff, ne_eq, okP_iff]; omega)
        by_cases f5 : 1500 < q.s
        · go_wp2_with fail
          go_ret
          exact BAD.out (by rw [Bool.eq_false_iff, ne_eq, okP_iff]; omega)
        have HOK := Lib.hid (show okP q = true from (okP_iff q).2 (by omega))
        · have hokt := HOK.out
          rcases Nat.eq_zero_or_pos k with hk0 | hk0
          · have HN := Lib.hid (show VLoop l c (k + 1) from by have := HK.out.1; have := hV.out; subst hk0; exact VLoop.first ‹_› ‹_› hokt)
            have hk0I : ¬ (0 : Int) < (k : Int) := by omega
            clear hokt
            go_wp2_with fail
            go_quiet (fail)
            go_wp2_with fail
            go_roundw
            case rel => exact ⟨k + 1, by go_num, by omega, HN, HU.out.drewN _⟩
            case measure => simp [intOf]; omega
          · obtain ⟨m, rfl⟩ : ∃ m, k = m + 1 := ⟨k - 1, by omega⟩
            have hlm : m < l.length := by rw [HL.out]; omega
            obtain ⟨q', hq'⟩ : ∃ q', l[m]? = some q' := ⟨_, List.getElem?_eq_getElem hlm⟩
            have HN := Lib.hid (hV.out.next HK.out.1 hq' hokt)
            obtain ⟨d0, d1, d2⟩ := (HK.out.2.under HB.out) m q' hq'
            have hmI : 0 < (m : Int) + 1 := by omega
            have hm2 : (m : Int) < (n : Int) := by omega
            clear hq' hokt hlm d0 d2
            by_cases ht : q.t < q'.t
            · go_wp2_with fail
              go_quiet (fail)
              go_wp2_with fail
              go_ret
              exact ⟨by rw [show c = 7 from HN.out.1 ht]; rfl, HU.out.drewN _⟩
            · go_wp2_with fail
              go_quiet (fail)
              go_wp2_with fail
              go_roundw
              case rel => exact ⟨m + 1 + 1, by go_num, by omega, HN.out.2 ht, HU.out.drewN _⟩
              case measure => simp [intOf]; omega
      · obtain rfl : k = n := by omega
        have hkI : ¬ (k : Int) < (k : Int) := by omega
        go_wp2_with fail
        go_ret
        exact ⟨by rw [show c = 0 from VLoop.fin (by rw [HL.out]; exact hV.out)]; rfl, HW.out⟩
end Go.Proofs.Ytkienpbmoilheaa
