/- Same of package trace and of the document, of lists of packets; the document's Ints. By the verifier's side. -/
import Derived.Test.YtkienpbmoilheaaGreatATrATrB
import Derived.Laws.StructEq
namespace Go.Proofs.YtkienpbmoilheaaGreat
open Go.RowKit
set_option linter.unusedSimpArgs false
set_option linter.unusedVariables false

/-- Two packets are equal. -/
def pkB (x y : Pk) : Bool := (x.f == y.f) && ((x.t == y.t) && (x.s == y.s))
theorem pkB_iff (x y : Pk) : pkB x y = true ↔ x = y := by
  unfold pkB
  simp only [Bool.and_eq_true, beq_iff_eq]
  constructor
  · rintro ⟨h1, h2, h3⟩; cases x; cases y; simp_all
  · rintro rfl; exact ⟨rfl, rfl, rfl⟩
/-- Two lists of packets are equal. -/
def pkEq : List Pk → List Pk → Bool
  | [], [] => true
  | x :: xs, y :: ys => pkB x y && pkEq xs ys
  | _, _ => false
theorem pkEq_iff : ∀ (xs ys : List Pk), pkEq xs ys = true ↔ xs = ys
  | [], [] => by simp [pkEq]
  | [], y :: ys => by simp [pkEq]
  | x :: xs, [] => by simp [pkEq]
  | x :: xs, y :: ys => by
    show (pkB x y && pkEq xs ys) = true ↔ _
    rw [Bool.and_eq_true, pkB_iff, pkEq_iff xs ys, List.cons.injEq]
theorem pkEq_self (xs : List Pk) : pkEq xs xs = true := (pkEq_iff xs xs).2 rfl
theorem pkEq_len {xs ys : List Pk} (h : xs.length ≠ ys.length) : pkEq xs ys = false := by
  rw [Bool.eq_false_iff, ne_eq, pkEq_iff]; rintro rfl; exact h rfl
theorem pkEq_step {xs ys : List Pk} {k : Nat} {x y : Pk} (hx : xs[k]? = some x) (hy : ys[k]? = some y) : pkEq (xs.drop k) (ys.drop k) = (pkB x y && pkEq (xs.drop (k + 1)) (ys.drop (k + 1))) := by
  rw [drop_at hx, drop_at hy]; rfl

theorem neq_pk (x y : Pk) (o : Bool) (h : pkB x y = o) (w : World) : Sem.run Tryz.prog (binOp .neq 54 (.agg #[.int .i64 x.f, .int .i64 x.t, .int .i64 x.s]) (.agg #[.int .i64 y.f, .int .i64 y.t, .int .i64 y.s])) w = .ok (.bool (!o)) w := by
  have u3 := Tryz.underlying3
  have a3 := Tryz.isAgg3
  have z3 := Tryz.sizeOf3
  have hS : Tryz.prog.underlying 54 = some (.struct (Tryz.prog.fieldsOf 54)) := by kernel_rfl
  have hp : Tryz.prog.stoodInHeld 54 = false := by kernel_rfl
  rw [run_neq_struct, show (10000 : Nat) = 9999 + 1 from rfl, run_equalIn_agg w 9999 54 _ _ hS hp]
  simp only [Program.fieldsOf, Tryz.underlying54]
  subst h
  unfold pkB
  go_simp
  by_cases h1 : x.f = y.f <;> by_cases h2 : x.t = y.t <;> by_cases h3 : x.s = y.s <;> simp [h1, h2, h3]
theorem guard_pk (op : BinOp) (a b : Operand) (xs ys : Array Value) (w : World) : Sem.run Tryz.prog (eqGuard op 54 a b (.agg xs) (.agg ys)) w = .ok () w :=
  run_eqGuard_agg w op 54 a b xs ys (by kernel_rfl)

set_option maxRecDepth 100000 in
set_option maxHeartbeats 1600000 in
theorem rsame13_any (a1 : Option Addr) (n1 cap1 : Nat) (l1 : List Pk) (a2 : Option Addr) (n2 cap2 : Nat) (l2 : List Pk) (c : Bool) (hc : pkEq l1 l2 = c) (w : World) (h1 : PkR w a1 n1 cap1 l1) (h2 : PkR w a2 n2 cap2 l2) :
    Calls Tryz.prog 25 #[.slice a1 n1 cap1, .slice a2 n2 cap2] w (Drew (.bool c) w) := by
  by_cases hn : n1 = n2
  · subst hn
    have HL := Lib.hid (And.intro h1.len h2.len)
    have H := Lib.hid (And.intro h1 h2)
    have HC := Lib.hid (show pkEq (l1.drop 0) (l2.drop 0) = c from hc)
    have hsm := h1.sm
    clear h1 h2 hc
    go_enter Tryz.func25, Tryz.ntmps25
    go_wp2_with fail
    go_loopw [5] (fun vi wx => ∃ k m : Nat, vi = .int .i64 k ∧ k ≤ n1 ∧ Hid (pkEq (l1.drop k) (l2.drop k) = c) ∧ wx = w.drewN m) (fun vi _ => n1 - (intOf vi).toNat)
    case atStart => exact ⟨0, 0, by go_num, Nat.zero_le _, HC, rfl⟩
    case round =>
      obtain ⟨k, m, rfl, hk, hE, rfl⟩ := hrel
      by_cases hlt : k < n1
      · have hlI : (k : Int) < (n1 : Int) := by omega
        obtain ⟨B, off, q, ha, hcs, hq, hbd⟩ := H.out.1.at hlt
        obtain ⟨B', off', q', ha', hcs', hq', hbd'⟩ := H.out.2.at hlt
        obtain ⟨c0, c1, c2⟩ := hcs k q hq
        obtain ⟨d0, d1, d2⟩ := hcs' k q' hq'
        obtain ⟨o, ho⟩ : ∃ o, pkB q q' = o := ⟨_, rfl⟩
        have HS := Lib.hid (show (o && pkEq (l1.drop (k + 1)) (l2.drop (k + 1))) = c from by rw [← ho, ← pkEq_step hq hq']; exact hE.out)
        have HA := Lib.hid (And.intro ha ha')
        have hne := neq_pk q q' o ho
        have hgd : ∀ (op : BinOp) (a b : Operand) (w : World), Sem.run Tryz.prog (eqGuard op 54 a b (.agg #[.int .i64 q.f, .int .i64 q.t, .int .i64 q.s]) (.agg #[.int .i64 q'.f, .int .i64 q'.t, .int .i64 q'.s])) w = .ok () w := fun op a b w => guard_pk op a b _ _ w
        clear hcs hcs' hq hq' ho hE hbd hbd'
        rw [ha, ha']
        clear ha ha'
        cases o with
        | true =>
          go_wp2_with fail
          go_quiet (fail)
          go_wp2_with fail
          go_roundw
          case rel => exact ⟨k + 1, m + nq, by go_num, by omega, Lib.hid (by have := HS.out; simpa using this), by first | rfl | rw [World.drewN_drewN]⟩
          case measure => simp [intOf]; omega
        | false =>
          go_wp2_with fail
          go_quiet (fail)
          go_wp2_with fail
          go_ret
          exact ⟨by rw [show c = false from by have := HS.out; simpa using this.symm]; rfl, m + nq, by first | rfl | rw [World.drewN_drewN]⟩
      · obtain rfl : k = n1 := by omega
        have hkI : ¬ (k : Int) < (k : Int) := by omega
        go_wp2_with fail
        go_ret
        exact ⟨by rw [show c = true from by have := hE.out; rw [List.drop_of_length_le (by rw [HL.out.1]; exact Nat.le_refl _), List.drop_of_length_le (by rw [HL.out.2]; exact Nat.le_refl _)] at this; exact this.symm]; rfl, m, rfl⟩
  · obtain rfl : c = false := by rw [← hc]; exact pkEq_len (by rw [h1.len, h2.len]; exact hn)
    have hnI : ¬ (n1 : Int) = (n2 : Int) := by omega
    clear h1 h2 hc
    go_enter Tryz.func25, Tryz.ntmps25
    go_wp2_with fail
    go_ret
    exact ⟨rfl, 0, rfl⟩

theorem RowZ.dr13 {w w' : World} {a : Option Addr} {n cap : Nat} {zs : List Int} (h : RowZ w a n cap zs) (hd : ∃ m, w' = w.drewN m) : RowZ w' a n cap zs := by
  obtain ⟨m, rfl⟩ := hd; exact ⟨h.len, h.le, h.sm, h.cm, h.cell, h.bd⟩
theorem hdr13_add {u w : World} (h : ∃ m, u = w.drewN m) (n : Nat) : Hid (∃ m, u.drewN n = w.drewN m) := by
  obtain ⟨m, rfl⟩ := h; exact ⟨m + n, World.drewN_drewN _ _ _⟩

set_option maxHeartbeats 1600000 in
theorem rints5_any (a : Option Addr) (n cap : Nat) (zs : List Int) (a2 : Option Addr) (n2 cap2 : Nat) (ys : List Int) (b : Bool) (hb : decide (zs = ys) = b) (w : World) (h : RowZ w a n cap zs) (h2 : RowZ w a2 n2 cap2 ys) :
    Calls Tryz.prog 26 #[.slice a n cap, .slice a2 n2 cap2] w (Drew (.bool b) w) := by
  have H := Lib.hid h
  have H2 := Lib.hid h2
  have HB := Lib.hid hb
  have hn := h.sm
  have hn2 := h2.sm
  have hl := h.len
  have hl2 := h2.len
  subst hl hl2
  clear h h2 hb
  by_cases e1 : zs.length = ys.length
  · have t1 : ((zs.length : Int) != (ys.length : Int)) = false := by simp [e1]
    have E1 := Lib.hid e1
    have hle : zs.length ≤ ys.length := by omega
    clear e1
    go_enter Tryz.func26, Tryz.ntmps26
    go_wp2_with fail
    go_loopw [5] (fun s5 wx => ∃ k : Nat, s5 = .int .i64 k ∧ k ≤ zs.length ∧ Hid (∀ i, i < k → zs.getD i 0 = ys.getD i 0) ∧ Hid (∃ m, wx = w.drewN m)) (fun s5 _ => zs.length - (intOf s5).toNat)
    case atStart => exact ⟨0, rfl, Nat.zero_le _, fun i hi => absurd hi (Nat.not_lt_zero _), 0, rfl⟩
    case round =>
      obtain ⟨k, rfl, hk, hall, hdr⟩ := hrel
      obtain ⟨w1, rfl⟩ : ∃ u : World, u = wr := ⟨_, rfl⟩
      by_cases hlt : k < zs.length
      · obtain ⟨x, rfl, hcx⟩ := (H.out.dr13 hdr.out).cell k hlt
        obtain ⟨y, rfl, hcy⟩ := (H2.out.dr13 hdr.out).cell k (by omega)
        obtain ⟨v1, hv1⟩ : ∃ v, zs.getD k 0 = v := ⟨_, rfl⟩
        obtain ⟨v2, hv2⟩ : ∃ v, ys.getD k 0 = v := ⟨_, rfl⟩
        rw [hv1] at hcx
        rw [hv2] at hcy
        have HV := Lib.hid (And.intro hv1 hv2)
        have hky : (k : Int) < (ys.length : Int) := by omega
        have hkz : (k : Int) < (zs.length : Int) := by omega
        have hk0 : (0 : Int) ≤ (k : Int) := by omega
        clear hv1 hv2
        by_cases hd : v1 = v2
        · have hd' : (v1 != v2) = false := by simpa using hd
          have HD := Lib.hid hd
          clear hd
          go_wp2_with fail
          go_quiet (fail)
          go_wp2_with fail
          go_roundw
          case rel =>
            refine ⟨k + 1, by go_num, by omega, fun i hi => ?_, hdr13_add hdr.out nq⟩
            by_cases he : i = k
            · subst he; rw [HV.out.1, HV.out.2]; exact HD.out
            · exact hall.out i (by omega)
          case measure => simp [intOf]; omega
        · have hd' : (v1 != v2) = true := by simpa using hd
          have HD := Lib.hid hd
          clear hd
          go_wp2_with fail
          go_quiet (fail)
          go_wp2_with fail
          go_ret
          refine ⟨?_, hdr13_add hdr.out nq⟩
          rw [← HB.out, decide_eq_false (show ¬ zs = ys from fun e => HD.out (by rw [← HV.out.1, ← HV.out.2, e]))]; rfl
      · obtain rfl : k = zs.length := by omega
        go_wp2_with fail
        go_ret
        refine ⟨?_, hdr.out⟩
        rw [← HB.out, decide_eq_true (list_ext_getD E1.out hall.out)]; rfl
  · have t1 : ((zs.length : Int) != (ys.length : Int)) = true := by simp; omega
    have e : b = false := by rw [← HB.out]; exact decide_eq_false (fun e => e1 (by rw [e]))
    subst e
    clear e1
    go_enter Tryz.func26, Tryz.ntmps26
    go_wp2_with fail
    go_ret
    exact ⟨rfl, 0, rfl⟩

end Go.Proofs.YtkienpbmoilheaaGreat

namespace Go.Proofs.YtkienpbmoilheaaGreat
open Go.RowKit
set_option linter.unusedSimpArgs false
set_option linter.unusedVariables false

set_option maxRecDepth 100000 in
set_option maxHeartbeats 3200000 in
/-- Validate of the document, of whatever list. -/
theorem rvalidate_any (a : Option Addr) (n cap : Nat) (l : List Pk) (c : Int) (hc : vcode l = c) (w : World) (h : PkR w a n cap l) :
    Calls Tryz.prog 48 #[.slice a n cap] w (Says (.int .i64 c) w) := by
  have hsm := h.sm
  have hlen := h.len
  by_cases h60 : 60 < n
  · obtain rfl : c = 3 := by rw [← hc]; unfold vcode; rw [if_pos (by rw [hlen]; exact h60)]
    have H6 : 60 < (n : Int) := by omega
    clear hc h
    go_enter Tryz.func48, Tryz.ntmps48
    go_wp2_with fail
    go_ret
    exact ⟨rfl, Below.refl _ _⟩
  · have HV := Lib.hid (VLoop.start hc (by rw [hlen]; exact h60))
    have H := Lib.hid h
    have HL := Lib.hid hlen
    have H6 : ¬ 60 < (n : Int) := by omega
    clear h hc hlen
    go_enter Tryz.func48, Tryz.ntmps48
    go_wp2_with fail
    go_loopw [3] (fun vi wx => ∃ k : Nat, vi = .int .i64 k ∧ k ≤ n ∧ Hid (VLoop l c k) ∧ Hid (Below w.heap.size w wx)) (fun vi _ => n - (intOf vi).toNat)
    case atStart => exact ⟨0, by go_num, Nat.zero_le _, HV, Below.refl _ _⟩
    case round =>
      obtain ⟨k, rfl, hk, hV, HW⟩ := hrel
      obtain ⟨wk, rfl⟩ : ∃ u : World, u = wr := ⟨_, rfl⟩
      by_cases hlt : k < n
      · have hlI : (k : Int) < (n : Int) := by omega
        obtain ⟨B, off, q, ha, hcs, hq, hbd⟩ := (H.out.under HW.out).at hlt
        obtain ⟨c0, c1, c2⟩ := hcs k q hq
        obtain ⟨⟨b1, b2⟩, ⟨b3, b4⟩, b5, b6⟩ := hbd
        have HK := Lib.hid (And.intro hq hcs)
        clear hcs hq
        have HA := Lib.hid ha
        rw [ha]
        clear ha
        go_upto_region 7 with fail
        obtain ⟨u, hu⟩ : ∃ u : World, wk.alloc (.cells #[.int .i64 q.f, .int .i64 q.t, .int .i64 q.s] 54) = u := ⟨_, rfl⟩
        have hb : Below wk.heap.size wk u := by rw [← hu]; exact (Below.refl _ _).alloc (Nat.le_refl _) _
        obtain ⟨n0, n1, n2⟩ : u.cell? ⟨wk.heap.size, 0, none⟩ = some (.int .i64 q.f) ∧ u.cell? ⟨wk.heap.size, 1, none⟩ = some (.int .i64 q.t) ∧ u.cell? ⟨wk.heap.size, 2, none⟩ = some (.int .i64 q.s) := by rw [← hu]; exact ⟨cell_new13 rfl, cell_new13 rfl, cell_new13 rfl⟩
        have HU := Lib.hid (HW.out.trans (hb.mono HW.out.size))
        have HB := Lib.hid hb
        rw [hu]
        clear hu hb c0 c1 c2
        have bad : (okP q = false) → Says (.int .i64 c) w (.returned (.int .i64 2)) u := fun hbq => by rw [hV.out.bad HK.out.1 hbq]; exact ⟨rfl, HU.out⟩
        have BAD := Lib.hid bad
        clear bad
        by_cases f0 : q.f < 0
        · go_wp2_with fail
          go_ret
          exact BAD.out (by rw [Bool.eq_false_iff, ne_eq, okP_iff]; omega)
        by_cases f1 : 60 ≤ q.f
        · go_wp2_with fail
          go_ret
          exact BAD.out (by rw [Bool.eq_false_iff, ne_eq, okP_iff]; omega)
        by_cases f2 : q.t < 0
        · go_wp2_with fail
          go_ret
          exact BAD.out (by rw [Bool.eq_false_iff, ne_eq, okP_iff]; omega)
        by_cases f3 : 2000 < q.t
        · go_wp2_with fail
          go_ret
          exact BAD.out (by rw [Bool.eq_false_iff, ne_eq, okP_iff]; omega)
        by_cases f4 : q.s < 1
        · go_wp2_with fail
          go_ret
          exact BAD.out (by rw [Bool.eq_false_iff, ne_eq, okP_iff]; omega)
        by_cases f5 : 1500 < q.s
        · go_wp2_with fail
          go_ret
          exact BAD.out (by rw [Bool.eq_false_iff, ne_eq, okP_iff]; omega)
        have HOK := Lib.hid (show okP q = true from (okP_iff q).2 (by omega))
        · have hokt := HOK.out
          rcases Nat.eq_zero_or_pos k with hk0 | hk0
          · have HN := Lib.hid (show VLoop l c (k + 1) from by have := HK.out.1; have := hV.out; subst hk0; exact VLoop.first ‹_› ‹_› hokt)
            have hk0I : ¬ (0 : Int) < (k : Int) := by omega
            clear hokt
            go_wp2_with fail
            go_quiet (fail)
            go_wp2_with fail
            go_roundw
            case rel => exact ⟨k + 1, by go_num, by omega, HN, HU.out.drewN _⟩
            case measure => simp [intOf]; omega
          · obtain ⟨m, rfl⟩ : ∃ m, k = m + 1 := ⟨k - 1, by omega⟩
            have hlm : m < l.length := by rw [HL.out]; omega
            obtain ⟨q', hq'⟩ : ∃ q', l[m]? = some q' := ⟨_, List.getElem?_eq_getElem hlm⟩
            have HN := Lib.hid (hV.out.next HK.out.1 hq' hokt)
            obtain ⟨d0, d1, d2⟩ := (HK.out.2.under HB.out) m q' hq'
            have hmI : 0 < (m : Int) + 1 := by omega
            have hm2 : (m : Int) < (n : Int) := by omega
            clear hq' hokt hlm d0 d2
            by_cases ht : q.t < q'.t
            · go_wp2_with fail
              go_quiet (fail)
              go_wp2_with fail
              go_ret
              exact ⟨by rw [show c = 7 from HN.out.1 ht]; rfl, HU.out.drewN _⟩
            · go_wp2_with fail
              go_quiet (fail)
              go_wp2_with fail
              go_roundw
              case rel => exact ⟨m + 1 + 1, by go_num, by omega, HN.out.2 ht, HU.out.drewN _⟩
              case measure => simp [intOf]; omega
      · obtain rfl : k = n := by omega
        have hkI : ¬ (k : Int) < (k : Int) := by omega
        go_wp2_with fail
        go_ret
        exact ⟨by rw [show c = 0 from VLoop.fin (by rw [HL.out]; exact hV.out)]; rfl, HW.out⟩
end Go.Proofs.YtkienpbmoilheaaGreat
