/- The packets of a list from the last to the first: the iterator slices.Backward. By the verifier's side. -/
import Derived.Test.YtknimlpdpgpliaaFTrR
import Derived.Test.YtknimlpdpgpliaaFRegIRegNRegW
import Derived.Test.YtknimlpdpgpliaaFCfM
namespace Go.Proofs.Ytknimlpdpgpliaa
open Go.RowKit Go.Shelf
set_option linter.unusedSimpArgs false
set_option linter.unusedVariables false
attribute [local go_sem] Oper.semAt_some

theorem rev_drop {l : List Pk} {m : Nat} {q : Pk} (h : l[m]? = some q) : (l.drop m).reverse = (l.drop (m + 1)).reverse ++ [q] := by rw [drop_at h, List.reverse_cons]

set_option maxHeartbeats 2000000 in
theorem backward1_in (F : Fence) (n : Nat) (hF : F.fn 167) (hro : F.round = none) (hn : 1 ≤ n) (l Bs n0 b : Nat) (a : Option Addr) (len cap : Nat) (lst : List Pk) (J Jx : List (Int × Pk) → World → Prop)
    (hY : ∀ pre x W1, x.2 ∈ lst → J pre W1 → pre.length < len → YieldAt F (n - 1) Try.prog l #[.int .i64 x.1, .agg #[.int .i64 x.2.f, .int .i64 x.2.t, .int .i64 x.2.s]] W1 fun e W' =>
      (e = .returned (.bool true) ∧ J (pre ++ [x]) W' ∧ BB n0 b W1 W') ∨ (e = .returned (.bool false) ∧ Jx (pre ++ [x]) W'))
    (W : World) (hn0 : n0 ≤ W.heap.size) (hs1 : Bs < n0) (hs2 : Bs ≠ b)
    (hcs : W.cell? ⟨Bs, 0, none⟩ = some (.slice a len cap)) (hR : PkR W a len cap lst) (hR0 : ∀ B off, a = some ⟨B, off, none⟩ → 1 ≤ len → B < n0 ∧ B ≠ b) (h0 : J [] W) :
    CallsIn F n Try.prog 167 #[.func (.yield l) #[] #[], .pointer (some ⟨Bs, 0, none⟩)] W fun e W' => (∃ v, e = .returned v) ∧
      ((∃ ys, ys.map (·.2) = lst.reverse ∧ J ys W') ∨ (∃ pre, (∃ m, m ≤ len ∧ pre.map (·.2) = (lst.drop m).reverse) ∧ Jx pre W')) := by
  have HR := Lib.hid (And.intro hR hR0)
  have HN := Lib.hid (And.intro hs1 hs2)
  have HY := Lib.hid hY
  have hsm := hR.sm
  have hlen := hR.len
  have HL := Lib.hid hlen
  clear hR hR0 hs1 hs2 hY hlen
  refine callsIn_of_wp Try.func167 rfl hF ?_ hro
  simp only [Try.ntmps167, List.size_toArray, List.length_cons, List.length_nil, Nat.reduceAdd, Nat.reduceSub, Array.replicate_succ, Array.replicate_zero, List.push_toArray, List.append_toArray, List.nil_append, List.cons_append]
  gi_wp2
  gi_loopw [3] (fun i wr => ∃ m : Nat, m ≤ len ∧ i = .int .i64 ((m : Int) - 1) ∧ Hid (∃ pre : List (Int × Pk), pre.length = len - m ∧ pre.map (·.2) = (lst.drop m).reverse ∧ J pre wr) ∧ Hid (BB n0 b W wr)) (fun i _ => (intOf i + 1).toNat)
  case atStart => exact ⟨len, Nat.le_refl _, rfl, Lib.hid ⟨[], by simp, by rw [← HL.out, List.drop_length]; rfl, h0⟩, BB.refl _ _ _⟩
  case round =>
    obtain ⟨m, hm, rfl, hJs, HW⟩ := hrel
    obtain ⟨wk, rfl⟩ : ∃ u : World, u = wr := ⟨_, rfl⟩
    have cs : wk.cell? ⟨Bs, 0, none⟩ = some (.slice a len cap) := (HW.out.cell HN.out.1 HN.out.2).trans hcs
    cases m with
    | zero =>
      rw [show ((0 : Nat) : Int) - 1 = -1 from rfl]
      gi_wp2
      go_end0
      obtain ⟨pre, _, h2, h3⟩ := hJs.out
      exact ⟨⟨_, rfl⟩, .inl ⟨pre, h2, h3⟩⟩
    | succ m =>
      rw [show ((m + 1 : Nat) : Int) - 1 = (m : Int) by omega]
      have hlt : m < len := by omega
      have hlI : (m : Int) < (len : Int) := by omega
      obtain ⟨B, off, q, ha, hc, hq, hbd⟩ := HR.out.1.at hlt
      obtain ⟨hB1, hB2⟩ := HR.out.2 B off ha (by omega)
      obtain ⟨c0, c1, c2⟩ := hc.bb HW.out hB1 hB2 m q hq
      have HQ := Lib.hid hq
      subst ha
      obtain ⟨pre, hp1, hp2, hp3⟩ := hJs.out
      have HP := Lib.hid (And.intro hp1 hp2)
      obtain ⟨fn, tmps, assign, body, hy, hRd⟩ := HY.out pre ((m : Int), q) wk (List.mem_of_getElem? hq) hp3 (by omega)
      clear hq hc hbd hB1 hB2 hp1 hp2 hp3
      dsimp only at hy
      gi_wp2
      refine hRd.mono ?_
      rintro e W3 (⟨rfl, hJ3, hk3⟩ | ⟨rfl, hJx3⟩)
      · have HK3 := Lib.hid (And.intro hJ3 hk3)
        clear hJ3 hk3
        gi_wp2
        go_roundw
        case rel => exact ⟨m, by omega, by go_num, Lib.hid ⟨pre ++ [((m : Int), q)], by rw [List.length_append, HP.out.1]; simp; omega, by rw [List.map_append, HP.out.2, rev_drop HQ.out]; rfl, HK3.out.1⟩, Lib.hid (HW.out.trans HK3.out.2)⟩
        case measure => first | (simp [intOf]; done) | (simp [intOf]; omega)
      · gi_wp2
        refine bodyPost_ret (results_none rfl _ _ _) rfl ?_
        exact ⟨⟨_, rfl⟩, .inr ⟨_, ⟨m, by omega, by rw [List.map_append, HP.out.2, rev_drop HQ.out]; rfl⟩, hJx3⟩⟩

set_option maxHeartbeats 400000 in
theorem backward_in (F : Fence) (n : Nat) (hF : F.fn 153) (hro : F.round = none) (a : Option Addr) (len cap : Nat) (w : World) :
    CallsIn F n Try.prog 153 #[.slice a len cap] w fun e w' => e = .returned (.func (.func 167) #[] #[.pointer (some ⟨w.heap.size, 0, none⟩)]) ∧ w' = w.alloc (.cells #[.slice a len cap] 45) := by
  refine callsIn_of_wp Try.func153 rfl hF ?_ hro
  simp only [Try.ntmps153, List.size_toArray, List.length_cons, List.length_nil, Nat.reduceAdd, Nat.reduceSub, Array.replicate_succ, Array.replicate_zero, List.push_toArray, List.append_toArray, List.nil_append, List.cons_append]
  gi_wp2
  go_ret
  exact ⟨rfl, rfl⟩

/-- A round may know that it is handed a packet of the list. -/
theorem backward_stops (F : Fence) (n : Nat) (hF : F.fn 167) (hro : F.round = none) (hn : 1 ≤ n) (Bs n0 b : Nat) (a : Option Addr) (len cap : Nat) (lst : List Pk) (w : World) (hn0 : n0 ≤ w.heap.size)
    (hs1 : Bs < n0) (hs2 : Bs ≠ b) (hcs : w.cell? ⟨Bs, 0, none⟩ = some (.slice a len cap)) (hR : PkR w a len cap lst) (hR0 : ∀ B off, a = some ⟨B, off, none⟩ → 1 ≤ len → B < n0 ∧ B ≠ b) :
    SeqStopsK F n Try.prog 167 #[.pointer (some ⟨Bs, 0, none⟩)] (fun x : { q : Int × Pk // q.2 ∈ lst } => #[.int .i64 x.1.1, .agg #[.int .i64 x.1.2.f, .int .i64 x.1.2.t, .int .i64 x.1.2.s]]) (BB n0 b) (fun ys => ys.map (·.1.2) = lst.reverse) (fun pre => ∃ m, m ≤ len ∧ pre.map (·.1.2) = (lst.drop m).reverse) len w := fun l J Jx W hW hJ _ hY h0 => by
  refine (backward1_in F n hF hro hn l Bs n0 b a len cap lst (fun pre W => ∃ ps : List { q : Int × Pk // q.2 ∈ lst }, ps.map (·.1) = pre ∧ J ps W) (fun pre W => ∃ ps : List { q : Int × Pk // q.2 ∈ lst }, ps.map (·.1) = pre ∧ Jx ps W) (fun pre x W1 hx hj hl => ?_) W (Nat.le_trans hn0 hW.size) hs1 hs2 ((hW.cell (p := ⟨Bs, 0, none⟩) (by show Bs < _; omega)).trans hcs) (hR.under hW) hR0 ⟨[], rfl, h0⟩).mono ?_
  · obtain ⟨ps, rfl, hj⟩ := hj
    refine (hY ps ⟨x, hx⟩ W1 hj (by simpa using hl)).mono ?_
    rintro e W' (⟨he, h1, h2⟩ | ⟨he, h1⟩)
    · exact .inl ⟨he, ⟨ps ++ [⟨x, hx⟩], by simp, h1⟩, h2⟩
    · exact .inr ⟨he, ps ++ [⟨x, hx⟩], by simp, h1⟩
  · rintro e W' ⟨he, ⟨ys, h1, ps, rfl, h2⟩ | ⟨pre, ⟨m, hm, h1⟩, ps, rfl, h2⟩⟩
    · exact ⟨he, .inl ⟨ps, by rw [List.map_map] at h1; exact h1, h2⟩⟩
    · exact ⟨he, .inr ⟨ps, ⟨m, hm, by rw [List.map_map] at h1; exact h1⟩, h2⟩⟩
end Go.Proofs.Ytknimlpdpgpliaa
