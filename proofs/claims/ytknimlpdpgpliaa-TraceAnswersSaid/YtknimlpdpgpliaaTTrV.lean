/- Later of package trace, where it gives no error. By the verifier's side. -/
import Derived.Test.YtknimlpdpgpliaaTTrU
import Derived.Test.YtknimlpdpgpliaaTTrITrJ
namespace Go.Proofs.Ytknimlpdpgpliaa
open Go.RowKit
set_option linter.unusedSimpArgs false
set_option linter.unusedVariables false

theorem PkO.setT {u : World} {B off : Nat} {l : List Pk} (h : PkO u B off l) {i : Nat} {q : Pk} (hi : l[i]? = some q) (t : Int) :
    PkO (u.setCell ⟨B, off + i * 3 + 1, none⟩ (.int .i64 t)) B off (l.set i ⟨q.f, t, q.s⟩) := by
  obtain ⟨cs, ty, hb, hc⟩ := h
  refine ⟨_, ty, block_set _ _ hb, fun j r hj => ?_⟩
  have hlt := (List.getElem?_eq_some_iff.1 hi).1
  by_cases e : j = i
  · subst e
    rw [List.getElem?_set_self hlt] at hj
    cases hj
    obtain ⟨h1, h2, h3⟩ := hc j _ hi
    have k2 := (Array.getElem?_eq_some_iff.1 h2).1
    refine ⟨?_, ?_, ?_⟩
    · rw [Array.getElem?_setIfInBounds_ne (by omega)]; exact h1
    · rw [Array.getElem?_setIfInBounds_self_of_lt k2]
    · rw [Array.getElem?_setIfInBounds_ne (by omega)]; exact h3
  · rw [List.getElem?_set_ne (fun h => e h.symm)] at hj
    obtain ⟨h1, h2, h3⟩ := hc j r hj
    refine ⟨?_, ?_, ?_⟩ <;> rw [Array.getElem?_setIfInBounds_ne (by omega)] <;> assumption
/-- The first k packets later. -/
def lateK (d : Int) (l : List Pk) (k : Nat) : List Pk := (l.take k).map (lateP d) ++ l.drop k
theorem lateK_at {d : Int} {l : List Pk} {k : Nat} {q : Pk} (h : l[k]? = some q) : (lateK d l k)[k]? = some q := by
  have hk := (List.getElem?_eq_some_iff.1 h).1
  unfold lateK
  rw [List.getElem?_append_right (by rw [List.length_map, List.length_take]; omega), List.length_map, List.length_take, Nat.min_eq_left (by omega), Nat.sub_self, List.getElem?_drop, Nat.add_zero, h]
theorem lateK_step {d : Int} {l : List Pk} {k : Nat} {q : Pk} (h : l[k]? = some q) : (lateK d l k).set k ⟨q.f, q.t + d, q.s⟩ = lateK d l (k + 1) := by
  have hk := (List.getElem?_eq_some_iff.1 h).1
  unfold lateK
  rw [List.set_append_right _ _ (by rw [List.length_map, List.length_take]; omega), List.length_map, List.length_take, Nat.min_eq_left (by omega), Nat.sub_self, drop_at h, List.take_add_one, h]
  simp [lateP]
theorem lateK_all (d : Int) (l : List Pk) : lateK d l l.length = l.map (lateP d) := by unfold lateK; rw [List.take_length, List.drop_length, List.append_nil]

/-- A list of its own and no error are handed back. -/
def GivesPk0 (l : List Pk) (w : World) (e : Ending) (w' : World) : Prop :=
  ∃ a n cap, e = .returned (.tuple #[.slice a n cap, .int .i64 0]) ∧ Below w.heap.size w w' ∧ PkR w' a n cap l ∧ (∀ x, a = some x → w.heap.size ≤ x.block)

set_option maxRecDepth 100000 in
set_option maxHeartbeats 1600000 in
theorem later_ok13 (a : Option Addr) (n cap : Nat) (l : List Pk) (d : Int) (hd : 0 ≤ d ∧ d ≤ 2000) (hv : vcode l = 0) (ht : ∀ q ∈ l, q.t + d ≤ 2000) (w : World) (h : PkR w a n cap l) :
    Calls Try.prog 52 #[.slice a n cap, .int .i64 d] w (GivesPk0 (l.map (lateP d)) w) := by
  have hk := vcode_ok hv
  have hsm := h.sm
  have HT := Lib.hid (And.intro ht hk)
  have H := Lib.hid h
  have HV := Lib.hid hv
  obtain ⟨hd0, hd1⟩ := hd
  have ho : (decide (d < 0) || decide (2000 < d)) = false := by simp; omega
  clear h hv ht hk
  go_enter Try.func52, Try.ntmps52
  go_wp2_with fail
  refine (validate_any a n cap l 0 HV.out _ H.out).mono ?_
  rintro e w1 ⟨rfl, hb⟩
  have HB := Lib.hid hb
  have HR := Lib.hid (H.out.under hb)
  clear hb
  go_wp2_with fail
  refine (outside13 d 0 2000 false ho _).mono ?_
  rintro e w1 ⟨rfl, rfl⟩
  go_upto_region 6 with fail
  go_cut [30] (fun s30 wx => s30 = .bool false ∧ wx = w1)
  case first =>
    rcases Nat.eq_zero_or_pos n with h0 | h0
    · subst h0
      go_wp2_with fail
      go_meet
      case rel => exact ⟨rfl, rfl⟩
    · obtain ⟨m, rfl⟩ : ∃ m, n = m + 1 := ⟨n - 1, by omega⟩
      obtain ⟨B, off, q, ha, hcs, hq, hbd⟩ := HR.out.at (show m < m + 1 by omega)
      obtain ⟨c0, c1, c2⟩ := hcs m q hq
      have hok := (okP_iff q).1 (HT.out.2.2.1 q (List.mem_of_getElem? hq))
      have hqd := HT.out.1 q (List.mem_of_getElem? hq)
      have hm1 : (0 : Int) < (m : Int) + 1 := by omega
      have hm2 : (m : Int) < (m : Int) + 1 := by omega
      have hqd2 : ¬ (2000 : Int) < q.t + d := by omega
      have hq0 : 0 ≤ q.t := by omega
      have HA := Lib.hid ha
      subst ha
      clear hcs hq hbd hok c0 c2
      go_wp2_with fail
      go_meet
      case rel => exact ⟨rfl, rfl⟩
  case rest =>
    obtain ⟨rfl, hwc⟩ := hcut
    rw [hwc]
    clear hwc
    go_wp2_with fail
    refine (clone13 a n cap l _ HR.out).mono ?_
    rintro e w2 ⟨a2, n2, cap2, rfl, hb2, hl2, hc1, hc2, hx2, hg2⟩
    obtain rfl : n2 = n := by rw [← hl2, H.out.len]
    have HB2 := Lib.hid (HB.out.trans (hb2.mono HB.out.size))
    have hz := HB.out.size
    have HX2 := Lib.hid (show ∀ x, a2 = some x → w.heap.size ≤ x.block from fun x hx => Nat.le_trans hz (hx2 x hx))
    have HC2 := Lib.hid (And.intro hl2 (And.intro hc1 hc2))
    have HG2 := Lib.hid (show n2 = 0 ∨ ∃ g, a2 = some ⟨g, 0, none⟩ ∧ w.heap.size ≤ g ∧ PkO w2 g 0 (lateK d l 0) from hg2.imp id fun ⟨g, h1, h2, h3⟩ => ⟨g, h1, by omega, by unfold lateK; simpa using h3⟩)
    clear hb2 hl2 hc1 hc2 hx2 hg2 hz
    go_wp2_with fail
    go_loopw [35] (fun vi wx => ∃ k : Nat, vi = .int .i64 k ∧ k ≤ n2 ∧ Hid (Below w.heap.size w wx) ∧ Hid (n2 = 0 ∨ ∃ g, a2 = some ⟨g, 0, none⟩ ∧ w.heap.size ≤ g ∧ PkO wx g 0 (lateK d l k))) (fun vi _ => n2 - (intOf vi).toNat)
    case atStart => exact ⟨0, by go_num, Nat.zero_le _, HB2, HG2⟩
    case round =>
      obtain ⟨k, rfl, hk, HW, HG⟩ := hrel
      obtain ⟨wk, rfl⟩ : ∃ u : World, u = wr := ⟨_, rfl⟩
      by_cases hlt : k < n2
      · have hlI : (k : Int) < (n2 : Int) := by omega
        rcases HG.out with h0 | ⟨g, ha, hgw, ho⟩
        · omega
        · obtain ⟨q, hq⟩ : ∃ q, l[k]? = some q := ⟨_, List.getElem?_eq_getElem (by rw [HC2.out.1]; exact hlt)⟩
          have hq2 := lateK_at (d := d) hq
          obtain ⟨c0, c1, c2⟩ := ho.cells k q hq2
          have hok := (okP_iff q).1 (HT.out.2.2.1 q (List.mem_of_getElem? hq))
          have hq0 : 0 ≤ q.t := by omega
          have hq1 : q.t ≤ 2000 := by omega
          have hf := ho.frozen
          have HS := Lib.hid (And.intro (ho.setT hq2 (q.t + d)) (And.intro (lateK_step (d := d) hq) hgw))
          rw [Nat.zero_add] at c0 c1 c2
          have HA := Lib.hid ha
          subst ha
          clear ho hgw hq hq2 hok HG c0 c2
          go_wp2_with fail
          go_roundw
          case rel =>
            refine ⟨k + 1, by go_num, by omega, HW.out.setCell (p := ⟨g, k * 3 + 1, none⟩) HS.out.2.2 _, .inr ⟨g, rfl, HS.out.2.2, ?_⟩⟩
            have := HS.out.1
            rw [Nat.zero_add, HS.out.2.1] at this
            exact this
          case measure => first | (simp [intOf]; done) | (simp [intOf]; omega)
      · obtain rfl : k = n2 := by omega
        have hkI : ¬ (k : Int) < (k : Int) := by omega
        go_wp2_with fail
        go_ret2
        refine ⟨a2, k, cap2, rfl, HW.out, ⟨by rw [List.length_map]; exact HC2.out.1, HC2.out.2.1, hsm, HC2.out.2.2, ?_, fun q hq => ?_⟩, HX2.out⟩
        · rcases HG.out with h0 | ⟨g, ha, hgw, ho⟩
          · exact .inl ⟨h0, fun _ _ => trivial⟩
          · have e := lateK_all d l
            rw [HC2.out.1] at e
            rw [e] at ho
            exact .inr ⟨g, 0, ha, ho.cells⟩
        · obtain ⟨r, hr, rfl⟩ := List.mem_map.1 hq
          have hok := (okP_iff r).1 (HT.out.2.2.1 r hr)
          have := HT.out.1 r hr
          exact ⟨⟨by show _ ≤ r.f; omega, by show r.f ≤ _; omega⟩, ⟨by show _ ≤ r.t + d; omega, by show r.t + d ≤ _; omega⟩, ⟨by show _ ≤ r.s; omega, by show r.s ≤ _; omega⟩⟩
end Go.Proofs.Ytknimlpdpgpliaa
