/- The document's Later. By the verifier's side. -/
import Derived.Test.YtkienpbmoilheaaCRTrD
import Derived.Test.YtkienpbmoilheaaCTrXTrV
import Derived.Test.YtkienpbmoilheaaCTrTTrU
import Derived.Test.YtkienpbmoilheaaCTrC
namespace Go.Proofs.Ytkienpbmoilheaa
open Go.RowKit
set_option linter.unusedSimpArgs false
set_option linter.unusedVariables false

set_option maxRecDepth 100000 in
set_option maxHeartbeats 3200000 in
theorem rlater13 (a : Option Addr) (n cap : Nat) (l : List Pk) (d : Int) (w : World) (h : PkR w a n cap l) :
    Calls Try.prog 96 #[.slice a n cap, .int .i64 d] w (GivesPkE (lcode d l) (laterL d l) w) := by
  rcases later_ways d l with ⟨x, hx, hx0, e1, e2⟩ | ⟨hv, hd, e1, e2⟩ | ⟨hv, hd0, hd1, ⟨q, hq, hqd, hln⟩, e1, e2⟩ | ⟨hv, hd0, hd1, ht, e1, e2⟩
  · rw [e1, e2]
    have H := Lib.hid h
    have HX := Lib.hid hx
    clear h hx e1 e2
    go_enter Try.func96, Try.ntmps96
    go_wp2_with fail
    refine (rvalidate_any a n cap l x HX.out _ H.out).mono ?_
    rintro e w1 ⟨rfl, hb⟩
    have HB := Lib.hid hb
    clear hb
    go_wp2_with fail
    go_ret2
    exact ⟨none, 0, 0, rfl, HB.out, pkR_nil _⟩
  · rw [e1, e2]
    have H := Lib.hid h
    have HV := Lib.hid hv
    clear h hv e1 e2
    have hsm := H.out.sm
    by_cases h1 : d < 0
    · clear hd
      go_enter Try.func96, Try.ntmps96
      go_wp2_with fail
      refine (rvalidate_any a n cap l 0 HV.out _ H.out).mono ?_
      rintro e w1 ⟨rfl, hb⟩
      have HB := Lib.hid hb
      clear hb
      go_wp2_with fail
      go_ret2
      exact ⟨none, 0, 0, rfl, HB.out, pkR_nil _⟩
    · have h2 : 2000 < d := by omega
      clear hd
      go_enter Try.func96, Try.ntmps96
      go_wp2_with fail
      refine (rvalidate_any a n cap l 0 HV.out _ H.out).mono ?_
      rintro e w1 ⟨rfl, hb⟩
      have HB := Lib.hid hb
      clear hb
      go_wp2_with fail
      go_ret2
      exact ⟨none, 0, 0, rfl, HB.out, pkR_nil _⟩
  · rw [e1, e2]
    have hok := (okP_iff q).1 ((vcode_ok hv).2.1 q (List.mem_of_getElem? hq))
    have hq0 : 0 ≤ q.t := by omega
    have hq1 : q.t ≤ 2000 := by omega
    have hsm := h.sm
    rw [h.len] at hq hln
    obtain ⟨m, rfl⟩ : ∃ m, n = m + 1 := ⟨n - 1, by omega⟩
    rw [Nat.add_sub_cancel] at hq
    have H := Lib.hid h
    have HV := Lib.hid hv
    have HQ := Lib.hid hq
    have h0 : ¬ d < 0 := by omega
    have h2 : ¬ 2000 < d := by omega
    have hm1 : (0 : Int) < (m : Int) + 1 := by omega
    have hm2 : (m : Int) < (m : Int) + 1 := by omega
    clear h hv e1 e2 hok hq hln
    go_enter Try.func96, Try.ntmps96
    go_wp2_with fail
    refine (rvalidate_any a (m + 1) cap l 0 HV.out _ H.out).mono ?_
    rintro e w1 ⟨rfl, hb⟩
    have HB := Lib.hid hb
    have HR := Lib.hid (H.out.under hb)
    clear hb
    obtain ⟨B, off, q', ha, hcs, hq', _⟩ := HR.out.at (show m < m + 1 by omega)
    obtain rfl : q' = q := by rw [HQ.out] at hq'; exact (Option.some.inj hq').symm
    obtain ⟨c0, c1, c2⟩ := hcs m _ hq'
    subst ha
    clear hcs hq' c0 c2
    go_wp2_with fail
    go_ret2
    exact ⟨none, 0, 0, rfl, HB.out, pkR_nil _⟩
  · rw [e1, e2]
    have hsm := h.sm
    have H := Lib.hid h
    have HV := Lib.hid hv
    have HT := Lib.hid (And.intro ht (vcode_ok hv))
    have h0 : ¬ d < 0 := by omega
    have h2 : ¬ 2000 < d := by omega
    clear h hv e1 e2 ht
    go_enter Try.func96, Try.ntmps96
    go_wp2_with fail
    refine (rvalidate_any a n cap l 0 HV.out _ H.out).mono ?_
    rintro e w1 ⟨rfl, hb⟩
    have HB := Lib.hid hb
    have HR := Lib.hid (H.out.under hb)
    clear hb
    go_upto_region 4 with fail
    go_cut [36] (fun s36 wx => s36 = .bool false ∧ wx = w1)
    case first =>
      rcases Nat.eq_zero_or_pos n with hn0 | hn0
      · subst hn0
        go_wp2_with fail
        go_meet
        case rel => exact ⟨by rw [decide_eq_false (show ¬ d < 0 by omega), decide_eq_false (show ¬ 2000 < d by omega)]; rfl, rfl⟩
      · obtain ⟨m, rfl⟩ : ∃ m, n = m + 1 := ⟨n - 1, by omega⟩
        obtain ⟨B, off, q, ha, hcs, hq, hbd⟩ := HR.out.at (show m < m + 1 by omega)
        obtain ⟨c0, c1, c2⟩ := hcs m q hq
        have hok := (okP_iff q).1 (HT.out.2.2.1 q (List.mem_of_getElem? hq))
        have hqd := HT.out.1 q (List.mem_of_getElem? hq)
        have hm1 : (0 : Int) < (m : Int) + 1 := by omega
        have hm2 : (m : Int) < (m : Int) + 1 := by omega
        have hqd2 : ¬ (2000 : Int) < q.t + d := by omega
        have hq0 : 0 ≤ q.t := by omega
        have HA := Lib.hid ha
        subst ha
        clear hcs hq hbd hok c0 c2
        go_wp2_with fail
        go_meet
        case rel => exact ⟨by rw [decide_eq_false (show ¬ d < 0 by omega), decide_eq_false (show ¬ 2000 < d by omega)]; rfl, rfl⟩
    case rest =>
      obtain ⟨rfl, hwc⟩ := hcut
      rw [hwc]
      clear hwc
      go_wp2_with (at_builtin; (refine wpList_append_pk rfl _ _ rfl w.heap.size (.slice none 0 0) 0 [] rfl (World.ownsRow_nil _ _ _ _) a n cap l rfl HR.out (by omega) HB.out.size ?_))
      intro v2 w2 ho2 hb2
      have HB2 := Lib.hid (HB.out.trans hb2)
      try simp only [Nat.zero_add, List.nil_append] at ho2
      obtain ⟨hl2, a2, cap2, hv2, hc1, hc2, hx2, hg2⟩ := pkO_of_owns ho2
      subst hv2
      have HC2 := Lib.hid (And.intro hl2 (And.intro hc1 hc2))
      have HG2 := Lib.hid (show n = 0 ∨ ∃ g, a2 = some ⟨g, 0, none⟩ ∧ w.heap.size ≤ g ∧ PkO w2 g 0 (lateK d l 0) from by
        rcases hg2 with ⟨_, k0⟩ | ⟨g, k1, k2, k3⟩
        · exact .inl k0
        · exact .inr ⟨g, k1, k2, by unfold lateK; simpa using k3⟩)
      clear hb2 hl2 hc1 hc2 hx2 hg2 ho2
      go_wp2_with fail
      go_loopw [8] (fun vi wx => ∃ k : Nat, vi = .int .i64 k ∧ k ≤ n ∧ Hid (Below w.heap.size w wx) ∧ Hid (n = 0 ∨ ∃ g, a2 = some ⟨g, 0, none⟩ ∧ w.heap.size ≤ g ∧ PkO wx g 0 (lateK d l k))) (fun vi _ => n - (intOf vi).toNat)
      case atStart => exact ⟨0, by go_num, Nat.zero_le _, HB2, HG2⟩
      case round =>
        obtain ⟨k, rfl, hk, HW, HG⟩ := hrel
        obtain ⟨wk, rfl⟩ : ∃ u : World, u = wr := ⟨_, rfl⟩
        by_cases hlt : k < n
        · have hlI : (k : Int) < (n : Int) := by omega
          rcases HG.out with h0' | ⟨g, ha, hgw, ho⟩
          · omega
          · obtain ⟨q, hq⟩ : ∃ q, l[k]? = some q := ⟨_, List.getElem?_eq_getElem (by rw [HC2.out.1]; exact hlt)⟩
            have hq2 := lateK_at (d := d) hq
            obtain ⟨c0, c1, c2⟩ := ho.cells k q hq2
            have hok := (okP_iff q).1 (HT.out.2.2.1 q (List.mem_of_getElem? hq))
            have hq0 : 0 ≤ q.t := by omega
            have hq1 : q.t ≤ 2000 := by omega
            have hf := ho.frozen
            have HS := Lib.hid (And.intro (ho.setT hq2 (q.t + d)) (And.intro (lateK_step (d := d) hq) hgw))
            rw [Nat.zero_add] at c0 c1 c2
            have HA := Lib.hid ha
            subst ha
            clear ho hgw hq hq2 hok HG c0 c2
            go_wp2_with fail
            go_roundw
            case rel =>
              refine ⟨k + 1, by go_num, by omega, HW.out.setCell (p := ⟨g, k * 3 + 1, none⟩) HS.out.2.2 _, .inr ⟨g, rfl, HS.out.2.2, ?_⟩⟩
              have := HS.out.1
              rw [Nat.zero_add, HS.out.2.1] at this
              exact this
            case measure => first | (simp [intOf]; done) | (simp [intOf]; omega)
        · obtain rfl : k = n := by omega
          have hkI : ¬ (k : Int) < (k : Int) := by omega
          go_wp2_with fail
          go_ret2
          refine ⟨a2, k, cap2, rfl, HW.out, ⟨by rw [List.length_map]; exact HC2.out.1, HC2.out.2.1, hsm, HC2.out.2.2, ?_, fun q hq => ?_⟩⟩
          · rcases HG.out with h0 | ⟨g, ha, hgw, ho⟩
            · exact .inl ⟨h0, fun _ _ => trivial⟩
            · have e := lateK_all d l
              rw [HC2.out.1] at e
              rw [e] at ho
              exact .inr ⟨g, 0, ha, ho.cells⟩
          · obtain ⟨r, hr, rfl⟩ := List.mem_map.1 hq
            have hok := (okP_iff r).1 (HT.out.2.2.1 r hr)
            have := HT.out.1 r hr
            exact ⟨⟨by show _ ≤ r.f; omega, by show r.f ≤ _; omega⟩, ⟨by show _ ≤ r.t + d; omega, by show r.t + d ≤ _; omega⟩, ⟨by show _ ≤ r.s; omega, by show r.s ≤ _; omega⟩⟩

end Go.Proofs.Ytkienpbmoilheaa
