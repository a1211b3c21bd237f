/- The sort of package slices at packets: its block, what swaps and what turns. By the verifier's side. -/
import Derived.Test.YtkienpbmoilheaaGreatATrDTrC
import Derived.Test.YtkienpbmoilheaaGreatATrMAvMAvLPkM
import Derived.Shelf.SlSortCmp.QuietGrown
import Derived.Deep.DeepCutAuto
namespace Go.Proofs.YtkienpbmoilheaaGreat
open Go.RowKit
set_option linter.unusedSimpArgs false
set_option linter.unusedVariables false

/-- The cells of a list of packets in an array of cells. -/
def pkCs (cs : Array Value) (off : Nat) (l : List Pk) : Prop :=
  ∀ i q, l[i]? = some q → cs[off + i * 3]? = some (.int .i64 q.f) ∧ cs[off + i * 3 + 1]? = some (.int .i64 q.t) ∧ cs[off + i * 3 + 2]? = some (.int .i64 q.s)
theorem pkCs.set {cs : Array Value} {off : Nat} {l : List Pk} (h : pkCs cs off l) {i : Nat} (hi : i < l.length) (q : Pk) :
    pkCs (((cs.setIfInBounds (off + i * 3) (.int .i64 q.f)).setIfInBounds (off + i * 3 + 1) (.int .i64 q.t)).setIfInBounds (off + i * 3 + 2) (.int .i64 q.s)) off (l.set i q) := fun j r hj => by
  by_cases e : j = i
  · subst e
    rw [List.getElem?_set_self hi] at hj
    cases hj
    obtain ⟨h1, h2, h3⟩ := h j _ (List.getElem?_eq_getElem hi)
    have k1 := (Array.getElem?_eq_some_iff.1 h1).1
    have k2 := (Array.getElem?_eq_some_iff.1 h2).1
    have k3 := (Array.getElem?_eq_some_iff.1 h3).1
    refine ⟨?_, ?_, ?_⟩
    · rw [Array.getElem?_setIfInBounds_ne (by omega), Array.getElem?_setIfInBounds_ne (by omega), Array.getElem?_setIfInBounds_self_of_lt k1]
    · rw [Array.getElem?_setIfInBounds_ne (by omega), Array.getElem?_setIfInBounds_self_of_lt (by simpa using k2)]
    · rw [Array.getElem?_setIfInBounds_self_of_lt (by simpa using k3)]
  · rw [List.getElem?_set_ne (fun h => e h.symm)] at hj
    obtain ⟨h1, h2, h3⟩ := h j r hj
    refine ⟨?_, ?_, ?_⟩ <;> rw [Array.getElem?_setIfInBounds_ne (by omega), Array.getElem?_setIfInBounds_ne (by omega), Array.getElem?_setIfInBounds_ne (by omega)] <;> assumption

/-- A block of its own, which reads a list of packets from a place on. -/
def PkO (u : World) (B off : Nat) (l : List Pk) : Prop := ∃ cs t, u.heap[B]? = some (.cells cs t (0, 0)) ∧ pkCs cs off l
section
variable {u v : World} {B off : Nat} {l : List Pk}
theorem PkO.frozen (h : PkO u B off l) (o : Nat) : u.frozen? ⟨B, o, none⟩ = false := by
  obtain ⟨cs, t, hb, _⟩ := h
  simp [World.frozen?, hb]
theorem PkO.cells (h : PkO u B off l) : PkC u B off l := fun i q hq => by
  obtain ⟨cs, t, hb, hc⟩ := h
  obtain ⟨h1, h2, h3⟩ := hc i q hq
  have e : ∀ o, u.cell? ⟨B, o, none⟩ = cs[o]? := fun o => by simp [World.cell?, hb]
  exact ⟨(e _).trans h1, (e _).trans h2, (e _).trans h3⟩
theorem PkO.lt (h : PkO u B off l) : B < u.heap.size := by
  obtain ⟨cs, t, hb, _⟩ := h
  exact (Array.getElem?_eq_some_iff.1 hb).1
theorem PkO.of_block (h : PkO u B off l) (hb : v.heap[B]? = u.heap[B]?) : PkO v B off l := by
  obtain ⟨cs, t, h1, h2⟩ := h; exact ⟨cs, t, hb.trans h1, h2⟩
theorem PkO.under (h : PkO u B off l) (hb : Below u.heap.size u v) : PkO v B off l := h.of_block (hb.block _ h.lt)
theorem PkO.drewN (h : PkO u B off l) (n : Nat) : PkO (u.drewN n) B off l := h
theorem PkO.drew (h : PkO u B off l) : PkO u.drew B off l := h
theorem block_set {w : World} {b : Nat} {cs : Array Value} {t : TypeId} (o : Nat) (x : Value) (h : w.heap[b]? = some (.cells cs t (0, 0))) : (w.setCell ⟨b, o, none⟩ x).heap[b]? = some (.cells (cs.setIfInBounds o x) t (0, 0)) := by
  simp [World.setCell, Array.getElem?_modify, h]
/-- The three stores of a packet. -/
theorem PkO.set (h : PkO u B off l) {i : Nat} (hi : i < l.length) (q : Pk) :
    PkO (((u.setCell ⟨B, off + i * 3, none⟩ (.int .i64 q.f)).setCell ⟨B, off + i * 3 + 1, none⟩ (.int .i64 q.t)).setCell ⟨B, off + i * 3 + 2, none⟩ (.int .i64 q.s)) B off (l.set i q) := by
  obtain ⟨cs, t, hb, hc⟩ := h
  exact ⟨_, t, block_set _ _ (block_set _ _ (block_set _ _ hb)), hc.set hi q⟩
end
theorem Apart.drew {b : Nat} {u v : World} (h : Apart b u v) : Apart b u v.drew := ⟨h.os, h.tape, h.output, h.size, h.block⟩

end Go.Proofs.YtkienpbmoilheaaGreat

namespace Go.Proofs.YtkienpbmoilheaaGreat
open Go.RowKit Go.Sort
set_option linter.unusedSimpArgs false
set_option linter.unusedVariables false

/-- What Compare says. -/
def sgn (a b : Int) : Int := if a < b then -1 else if b < a then 1 else 0
theorem sgn_lt {a b : Int} (h : a < b) : sgn a b < 0 := by unfold sgn; rw [if_pos h]; decide
theorem sgn_ge {a b : Int} (h : ¬ a < b) : ¬ sgn a b < 0 := by unfold sgn; rw [if_neg h]; split <;> decide

theorem nan13 (a : Int) (w : World) : Calls Tryz.prog 91 #[.int .i64 a] w fun e w' => e = .returned (.bool false) ∧ w' = w := by
  go_enter Tryz.func91, Tryz.ntmps91
  go_wp2_with fail
  go_ret
  exact ⟨rfl, rfl⟩
set_option maxHeartbeats 800000 in
theorem compare13 (a b : Int) (w : World) : Calls Tryz.prog 69 #[.int .i64 a, .int .i64 b] w fun e w' => e = .returned (.int .i64 (sgn a b)) ∧ w' = w := by
  rcases Int.lt_trichotomy a b with h | h | h
  · rw [show sgn a b = -1 from by unfold sgn; rw [if_pos h]]
    go_enter Tryz.func69, Tryz.ntmps69
    go_wp2_with (first | (go_at_call 91; with_reducible refine (nan13 a _).mono ?_; rintro e w1 ⟨rfl, rfl⟩) | (go_at_call 91; with_reducible refine (nan13 b _).mono ?_; rintro e w1 ⟨rfl, rfl⟩))
    go_ret
    exact ⟨rfl, rfl⟩
  · subst h
    rw [show sgn a a = 0 from by unfold sgn; rw [if_neg (by omega), if_neg (by omega)]]
    go_enter Tryz.func69, Tryz.ntmps69
    go_wp2_with (go_at_call 91; with_reducible refine (nan13 a _).mono ?_; rintro e w1 ⟨rfl, rfl⟩)
    go_ret
    exact ⟨rfl, rfl⟩
  · rw [show sgn a b = 1 from by unfold sgn; rw [if_neg (by omega), if_pos h]]
    have h2 : ¬ a < b := by omega
    go_enter Tryz.func69, Tryz.ntmps69
    go_wp2_with (first | (go_at_call 91; with_reducible refine (nan13 a _).mono ?_; rintro e w1 ⟨rfl, rfl⟩) | (go_at_call 91; with_reducible refine (nan13 b _).mono ?_; rintro e w1 ⟨rfl, rfl⟩))
    go_ret
    exact ⟨rfl, rfl⟩
theorem below_grown (w : World) (n : Nat) (os : Array Obj) : Below w.heap.size w (grow (w.drewN n) os) :=
  ⟨rfl, rfl, rfl, by rw [size_grow]; exact Nat.le_add_right _ _, fun k hk => heap_grow_old (w.drewN n) os hk⟩
theorem PkO.grown {u : World} {B off : Nat} {l : List Pk} (h : PkO u B off l) (n : Nat) (os : Array Obj) : PkO (grow (u.drewN n) os) B off l := h.under (below_grown u n os)
theorem PkO.gcells {u : World} {B off : Nat} {l : List Pk} (h : PkO u B off l) {k : Nat} {q : Pk} (hq : l[k]? = some q) :
    (∀ n os, (grow (u.drewN n) os).cell? ⟨B, off + k * 3, none⟩ = some (.int .i64 q.f)) ∧ (∀ n os, (grow (u.drewN n) os).cell? ⟨B, off + k * 3 + 1, none⟩ = some (.int .i64 q.t)) ∧ (∀ n os, (grow (u.drewN n) os).cell? ⟨B, off + k * 3 + 2, none⟩ = some (.int .i64 q.s)) :=
  ⟨fun n os => ((h.grown n os).cells k q hq).1, fun n os => ((h.grown n os).cells k q hq).2.1, fun n os => ((h.grown n os).cells k q hq).2.2⟩
end Go.Proofs.YtkienpbmoilheaaGreat

namespace Go.Proofs.YtkienpbmoilheaaGreat
open Go.RowKit Go.Sort
set_option linter.unusedSimpArgs false
set_option linter.unusedVariables false

/-- The cells of a list. -/
def pkV : List Pk → List Value
  | [] => []
  | q :: r => .int .i64 q.f :: .int .i64 q.t :: .int .i64 q.s :: pkV r
theorem pkV_length : ∀ l : List Pk, (pkV l).length = l.length * 3
  | [] => rfl
  | q :: r => by show (pkV r).length + 1 + 1 + 1 = (r.length + 1) * 3; rw [pkV_length r]; omega
theorem pkV_append : ∀ (a b : List Pk), pkV (a ++ b) = pkV a ++ pkV b
  | [], b => rfl
  | q :: r, b => by show _ :: _ :: _ :: pkV (r ++ b) = _; rw [pkV_append r b]; rfl
theorem pkV_one : ∀ (l : List Pk) (u : Value), u ∈ pkV l → u.oneCell' = true
  | [], u, h => by cases h
  | q :: r, u, h => by
    rcases List.mem_cons.1 h with e | h
    · rw [e]; rfl
    · rcases List.mem_cons.1 h with e | h
      · rw [e]; rfl
      · rcases List.mem_cons.1 h with e | h
        · rw [e]; rfl
        · exact pkV_one r u h
theorem pkV_at : ∀ (l : List Pk) (i : Nat) (q : Pk), l[i]? = some q → (pkV l)[i * 3]? = some (.int .i64 q.f) ∧ (pkV l)[i * 3 + 1]? = some (.int .i64 q.t) ∧ (pkV l)[i * 3 + 2]? = some (.int .i64 q.s)
  | [], i, q, h => by cases h
  | x :: r, 0, q, h => by cases h; exact ⟨rfl, rfl, rfl⟩
  | x :: r, i + 1, q, h => by
    have := pkV_at r i q h
    rw [show (i + 1) * 3 = i * 3 + 3 by omega]
    exact this
theorem pkV_of : ∀ (l : List Pk) (j : Nat) (u : Value), (pkV l)[j]? = some u → ∃ i q, l[i]? = some q ∧ ((j = i * 3 ∧ u = .int .i64 q.f) ∨ (j = i * 3 + 1 ∧ u = .int .i64 q.t) ∨ (j = i * 3 + 2 ∧ u = .int .i64 q.s))
  | [], j, u, h => by cases h
  | q :: r, 0, u, h => by cases h; exact ⟨0, q, rfl, .inl ⟨rfl, rfl⟩⟩
  | q :: r, 1, u, h => by cases h; exact ⟨0, q, rfl, .inr (.inl ⟨rfl, rfl⟩)⟩
  | q :: r, 2, u, h => by cases h; exact ⟨0, q, rfl, .inr (.inr ⟨rfl, rfl⟩)⟩
  | x :: r, j + 3, u, h => by
    obtain ⟨i, q, hi, hu⟩ := pkV_of r j u h
    refine ⟨i + 1, q, hi, ?_⟩
    rcases hu with ⟨rfl, hu⟩ | ⟨rfl, hu⟩ | ⟨rfl, hu⟩
    · exact .inl ⟨by omega, hu⟩
    · exact .inr (.inl ⟨by omega, hu⟩)
    · exact .inr (.inr ⟨by omega, hu⟩)
theorem PkC.news {w : World} {B off : Nat} {l : List Pk} (h : PkC w B off l) : ∀ j u, (pkV l)[j]? = some u → w.cell? ((⟨B, off, none⟩ : Addr).add j) = some u := fun j u hj => by
  obtain ⟨i, q, hi, hu⟩ := pkV_of l j u hj
  obtain ⟨h1, h2, h3⟩ := h i q hi
  have ea : ((⟨B, off, none⟩ : Addr).add j) = ⟨B, off + j, none⟩ := by unfold Addr.add; split <;> simp_all
  rw [ea]
  rcases hu with ⟨rfl, rfl⟩ | ⟨rfl, rfl⟩ | ⟨rfl, rfl⟩
  · exact h1
  · exact h2
  · exact h3
theorem info_pk : (Tryz.prog.info? 54).map (fun i => (i.zero, i.size, i.bytes)) = some (some (.agg #[.int .i64 0, .int .i64 0, .int .i64 0]), 3, 24) := by kernel_rfl
/-- A row of the call's own is a block of its own. -/
theorem pkO_of_owns {w : World} {base n : Nat} {v : Value} {l : List Pk} (h : w.ownsRow base 54 3 v n (pkV l)) :
    l.length = n ∧ ∃ a cap, v = .slice a n cap ∧ n ≤ cap ∧ cap ≤ 9223372036854775807 ∧ (∀ x, a = some x → base ≤ x.block) ∧ (a = none ∧ n = 0 ∨ ∃ g, a = some ⟨g, 0, none⟩ ∧ base ≤ g ∧ PkO w g 0 l) := by
  obtain ⟨hl, hr⟩ := h
  rw [pkV_length] at hl
  have hn : l.length = n := by omega
  refine ⟨hn, ?_⟩
  rcases hr with ⟨rfl, h0⟩ | ⟨g, cap, cur, rfl, hbase, hg, hnc, hcm, hsz, htake⟩
  · subst h0
    exact ⟨none, 0, rfl, Nat.le_refl _, by omega, (fun x hx => by cases hx), .inl ⟨rfl, rfl⟩⟩
  · refine ⟨some ⟨g, 0, none⟩, cap, rfl, hnc, by unfold maxLen at hcm; omega, fun x hx => by cases hx; exact hbase, .inr ⟨g, rfl, hbase, cur, _, hg, fun i q hq => ?_⟩⟩
    have hi := (List.getElem?_eq_some_iff.1 hq).1
    obtain ⟨h1, h2, h3⟩ := pkV_at l i q hq
    rw [← htake, List.getElem?_take, if_pos (by omega)] at h1 h2 h3
    rw [Nat.zero_add]
    exact ⟨by simpa using h1, by simpa using h2, by simpa using h3⟩

end Go.Proofs.YtkienpbmoilheaaGreat
