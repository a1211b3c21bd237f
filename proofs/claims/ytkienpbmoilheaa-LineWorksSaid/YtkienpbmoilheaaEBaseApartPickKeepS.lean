/- Contracts of the reader of numbers (package keep): Mod, Raw, N, New, Fraction. By the verifier's side. -/
import Derived.Test.YtkienpbmoilheaaProg
import Derived.WalkKit
import Derived.Outline
import Derived.Below
import Derived.Lib.Hide
import Derived.IntWalk
import Derived.BigQuiet
import Derived.Deep.QuietTactic
import Derived.LoopTactic
import Derived.BigRegion
import Derived.Laws.ResultCell
import Derived.Deep.RegionHeld3
import Derived.StillTail
import Derived.Deep.DrawnRows
namespace Go.Proofs.Ytkienpbmoilheaa
open Go.RowKit

abbrev In64 (x : Int) : Prop := -9223372036854775808 ≤ x ∧ x ≤ 9223372036854775807

theorem ret_int {k : IntKind} {a b : Int} (h : a = b) : Ending.returned (.int k a) = .returned (.int k b) := by rw [h]

theorem tmod_facts (x n : Int) (hn : 1 ≤ n) : x.tmod n < n ∧ -n < x.tmod n ∧ (0 ≤ x → x.tmod n = x % n) ∧ (x.tmod n < 0 → x.tmod n + n = x % n) ∧ (0 ≤ x.tmod n → x.tmod n = x % n) := by
  have h1 := Int.tmod_lt_of_pos x (show 0 < n by omega)
  have h2 : -n < x.tmod n := by
    have := Int.lt_tmod_of_pos x (show 0 < n by omega)
    exact this
  refine ⟨h1, h2, fun h => Int.tmod_eq_emod_of_nonneg h, ?_, ?_⟩
  · intro h
    have e := Int.tmod_add_mul_tdiv x n
    have : (x.tmod n + n) % n = x % n := by
      rw [Int.add_emod_right]
      conv => rhs; rw [← e]
      rw [Int.add_mul_emod_self_left]
    rw [← this, Int.emod_eq_of_lt (by omega) (by omega)]
  · intro h
    have e := Int.tmod_add_mul_tdiv x n
    have : (x.tmod n) % n = x % n := by
      conv => rhs; rw [← e]
      rw [Int.add_mul_emod_self_left]
    rw [← this, Int.emod_eq_of_lt (by omega) (by omega)]

set_option maxHeartbeats 400000 in
theorem mod_any (x n : Int) (hx : In64 x) (hn : 1 ≤ n) (hn2 : n ≤ 9223372036854775807) (w : World) :
    Calls Try.prog 99 #[.int .i64 x, .int .i64 n] w fun e w' => e = .returned (.int .i64 (x % n)) ∧ w = w' := by
  obtain ⟨hx1, hx2⟩ := hx
  have hf := tmod_facts x n hn
  have b1 := hf.1
  have b2 := hf.2.1
  have H := Lib.hid hf
  clear hf
  have hn1 : ¬ n < 1 := by omega
  have hn0 : ¬ n = 0 := by omega
  go_enter Try.func99, Try.ntmps99
  go_wp2
  · go_ret
    have h : x.tmod n < 0 := by assumption
    exact ⟨ret_int (H.out.2.2.2.1 h), rfl⟩
  · go_ret
    have h : 0 ≤ x.tmod n := by assumption
    exact ⟨ret_int (H.out.2.2.2.2 h), rfl⟩

/-- Every block but b is as it was (new blocks may stand behind). -/
structure Else (b : Nat) (w w' : World) : Prop where
  os : w'.os = w.os
  tape : w'.tape = w.tape
  output : w'.output = w.output
  size : w'.heap.size = w.heap.size
  block : ∀ k, k ≠ b → w'.heap[k]? = w.heap[k]?

theorem Else.refl (b : Nat) (w : World) : Else b w w := ⟨rfl, rfl, rfl, rfl, fun _ _ => rfl⟩
theorem Else.trans {b : Nat} {u v w : World} (h : Else b u v) (k : Else b v w) : Else b u w :=
  ⟨k.os.trans h.os, k.tape.trans h.tape, k.output.trans h.output, k.size.trans h.size, fun i hi => (k.block i hi).trans (h.block i hi)⟩
theorem Else.drew {b : Nat} {u v : World} (h : Else b u v) : Else b u v.drew := ⟨h.os, h.tape, h.output, h.size, h.block⟩
theorem Else.drewN {b : Nat} {u v : World} (h : Else b u v) (n : Nat) : Else b u (v.drewN n) := ⟨h.os, h.tape, h.output, h.size, h.block⟩
theorem Else.setCell {b : Nat} {u v : World} (h : Else b u v) (o : Nat) (x : Value) : Else b u (v.setCell ⟨b, o, none⟩ x) :=
  h.trans ⟨rfl, rfl, rfl, by simp [World.setCell], fun k hk => Below.heap_setCell _ _ _ _ hk⟩
theorem Else.cell {b : Nat} {w w' : World} (h : Else b w w') {p : Addr} (hp : p.block ≠ b) : w'.cell? p = w.cell? p := World.cell?_of_block (w := w) (h.block p.block hp)
theorem Else.frozen {b : Nat} {w w' : World} (h : Else b w w') {p : Addr} (hp : p.block ≠ b) : w'.frozen? p = w.frozen? p := World.frozen?_of_block (w := w) (h.block p.block hp)
theorem Else.below {b B : Nat} {w w' : World} (h : Else b w w') (hB : B ≤ b) : Below B w w' :=
  ⟨h.os, h.tape, h.output, Nat.le_of_eq h.size.symm, fun k hk => h.block k (by omega)⟩

/-- Block b is a reader of numbers over the slice v (n of them), and has read k of them. -/
structure SrcAt (w : World) (b : Nat) (a : Option Addr) (n cap : Nat) : Prop where
  src : ∃ k : Nat, k ≤ n ∧ w.heap[b]? = some (.cells #[.slice a n cap, .int .i64 k] 114 (0, 0))
  few : n ≤ 2000
  row : ∀ i, i < n → ∃ x z, a = some x ∧ x.block ≠ b ∧ w.cell? (x.add i) = some (.int .i64 z) ∧ In64 z

theorem SrcAt.keep {w w' : World} {b : Nat} {a : Option Addr} {n cap : Nat} (h : SrcAt w b a n cap) (k : Nat) (hk : k ≤ n)
    (hb : w'.heap[b]? = some (.cells #[.slice a n cap, .int .i64 k] 114 (0, 0))) (he : Else b w w') : SrcAt w' b a n cap :=
  ⟨⟨k, hk, hb⟩, h.few, fun i hi => by
    obtain ⟨x, z, h1, h2, h3, h4⟩ := h.row i hi
    exact ⟨x, z, h1, h2, by rw [he.cell (by unfold Addr.add; split <;> exact h2)]; exact h3, h4⟩⟩

theorem src_setCell {w : World} {b : Nat} {v x u : Value} {t : TypeId} (h : w.heap[b]? = some (.cells #[v, x] t (0, 0))) : (w.setCell ⟨b, 1, none⟩ u).heap[b]? = some (.cells #[v, u] t (0, 0)) := by
  simp [World.setCell, Array.getElem?_modify, h]

/-- A number is handed back; only the reader's block has turned. -/
def Reads (P : Int → Prop) (b : Nat) (a : Option Addr) (n cap : Nat) (w : World) (e : Ending) (w' : World) : Prop :=
  ∃ z : Int, P z ∧ e = .returned (.int .i64 z) ∧ SrcAt w' b a n cap ∧ Else b w w'

set_option maxHeartbeats 400000 in
theorem raw_any (b : Nat) (a : Option Addr) (n cap : Nat) (w : World) (h : SrcAt w b a n cap) :
    Calls Try.prog 100 #[.pointer (some ⟨b, 0, none⟩)] w (Reads In64 b a n cap w) := by
  have h' := Lib.hid h
  obtain ⟨⟨k, hk, hb⟩, hfew, hrow⟩ := h
  have hc0 : w.cell? ⟨b, 0, none⟩ = some (.slice a n cap) := by simp [World.cell?, hb]
  have hc1 : w.cell? ⟨b, 1, none⟩ = some (.int .i64 k) := by simp [World.cell?, hb]
  have hf1 : w.frozen? ⟨b, 1, none⟩ = false := by simp [World.frozen?, hb]
  have hb' := Lib.hid hb
  clear hb
  by_cases hlt : k < n
  · obtain ⟨x, z, rfl, hx, hz, hzin⟩ := hrow k hlt
    clear hrow
    have hld : ∀ (m : Nat) (v : Value), ((w.drewN m).setCell ⟨b, 1, none⟩ v).cell? (x.add k) = some (.int .i64 z) := fun m v => by
      rw [World.cell?_of_block (w := w.drewN m) (Below.heap_setCell _ _ _ _ (by unfold Addr.add; split <;> exact hx))]; exact hz
    clear hz
    go_enter Try.func100, Try.ntmps100
    go_wp2
    go_quiet (fail)
    go_wp2
    have hw1 : IntKind.i64.wrap ((k : Nat) : Int) = k := IntWalk.i64_in _ ⟨by omega, by omega⟩
    have hw2 : (0 : Int) ≤ (k : Int) := by omega
    have hw3 : ((k : Nat) : Int) < (n : Int) := by omega
    go_quiet (fail)
    go_wp2
    go_ret
    refine ⟨z, hzin, rfl, h'.out.keep (k + 1) (by omega) ?_ ?_, ?_⟩
    · exact src_setCell (w := w.drewN _) hb'.out
    · exact (((Else.refl _ _).drewN _).setCell _ _).drewN _
    · exact (((Else.refl _ _).drewN _).setCell _ _).drewN _
  · clear hrow
    go_enter Try.func100, Try.ntmps100
    go_wp2
    go_quiet (fail)
    go_wp2
    go_ret
    exact ⟨0, ⟨by decide, by decide⟩, rfl, h'.out.keep k (by omega) hb'.out ((Else.refl _ _).drewN _), (Else.refl _ _).drewN _⟩

set_option maxHeartbeats 400000 in
theorem n_any (m : Int) (hm : 1 ≤ m) (hm2 : m ≤ 9223372036854775807) (b : Nat) (a : Option Addr) (n cap : Nat) (w : World) (h : SrcAt w b a n cap) :
    Calls Try.prog 19 #[.pointer (some ⟨b, 0, none⟩), .int .i64 m] w (Reads (fun r => 0 ≤ r ∧ r < m) b a n cap w) := by
  have h' := Lib.hid h
  clear h
  go_enter Try.func19, Try.ntmps19
  go_wp2_with fail
  refine (raw_any b a n cap _ h'.out).mono ?_
  rintro e w1 ⟨z, hz, rfl, hs, he⟩
  have H := Lib.hid (And.intro hs he)
  clear hs he
  go_wp2_with fail
  refine (mod_any z m hz hm hm2 _).mono ?_
  rintro e w2 ⟨rfl, rfl⟩
  have h1 := Int.emod_nonneg z (show m ≠ 0 by omega)
  have h2 := Int.emod_lt_of_pos z (show 0 < m by omega)
  go_wp2_with fail
  go_ret
  exact ⟨_, ⟨h1, h2⟩, rfl, H.out.1, H.out.2⟩

/-- The list of numbers that came in. -/
def RowAt (w : World) (a : Option Addr) (n cap : Nat) : Prop :=
  (a = none ∧ n = 0 ∧ cap = 0) ∨ ∃ x, a = some x ∧ n ≤ cap ∧ cap ≤ maxLen ∧ ∀ i, i < cap → ∃ z, w.cell? (x.add i) = some (.int .i64 z) ∧ In64 z

/-- A new reader stands behind everything else. -/
def Starts (w : World) (e : Ending) (w' : World) : Prop :=
  e = .returned (.pointer (some ⟨w.heap.size, 0, none⟩)) ∧ Below w.heap.size w w' ∧ w'.heap.size = w.heap.size + 1 ∧ ∃ a n cap, SrcAt w' w.heap.size a n cap

theorem lt_of_cell {w : World} {p : Addr} {v : Value} (h : w.cell? p = some v) : p.block < w.heap.size := by
  rcases Nat.lt_or_ge p.block w.heap.size with h' | h'
  · exact h'
  · simp [World.cell?, Array.getElem?_eq_none h'] at h

theorem add_block (x : Addr) (i : Nat) : (x.add i).block = x.block := by unfold Addr.add; split <;> rfl

theorem RowAt.under {w w' : World} {a : Option Addr} {n cap : Nat} (h : RowAt w a n cap) (hb : Below w.heap.size w w') : RowAt w' a n cap := by
  rcases h with h | ⟨x, h1, h2, h3, h4⟩
  · exact .inl h
  · exact .inr ⟨x, h1, h2, h3, fun i hi => by
      obtain ⟨z, h5, h6⟩ := h4 i hi
      exact ⟨z, (hb.cell (lt_of_cell h5)).trans h5, h6⟩⟩

theorem starts_mk {w : World} {a : Option Addr} {m cap : Nat} (hm : m ≤ 2000) (hr : ∀ i, i < m → ∃ x z, a = some x ∧ w.cell? (x.add i) = some (.int .i64 z) ∧ In64 z) :
    Starts w (.returned (.pointer (some ⟨w.heap.size, 0, none⟩))) (w.alloc (.cells #[.slice a m cap, .int .i64 0] 114)) := by
  have hb : Below w.heap.size w (w.alloc (.cells #[.slice a m cap, .int .i64 0] 114)) := (Below.refl _ _).alloc (Nat.le_refl _) _
  refine ⟨rfl, hb, by simp, a, m, cap, ⟨0, Nat.zero_le _, ?_⟩, hm, fun i hi => ?_⟩
  · show (w.heap.push _)[w.heap.size]? = _
    simp
  · obtain ⟨x, z, h1, h2, h3⟩ := hr i hi
    have hlt := lt_of_cell h2
    rw [add_block] at hlt
    exact ⟨x, z, h1, by omega, (hb.cell (by rw [add_block]; exact hlt)).trans h2, h3⟩

set_option maxHeartbeats 400000 in
theorem new_any (a : Option Addr) (n cap : Nat) (w : World) (h : RowAt w a n cap) :
    Calls Try.prog 16 #[.slice a n cap] w (Starts w) := by
  rcases h with ⟨rfl, rfl, rfl⟩ | ⟨x, rfl, h1, h2, h3⟩
  · go_enter Try.func16, Try.ntmps16
    go_wp2
    go_ret
    exact starts_mk (by omega) (fun i hi => by omega)
  · unfold maxLen at h2
    have h3' := Lib.hid h3
    clear h3
    by_cases hn : n ≤ 2000
    · go_enter Try.func16, Try.ntmps16
      go_wp2
      go_ret
      exact starts_mk hn (fun i hi => by obtain ⟨z, h4⟩ := h3'.out i (by omega); exact ⟨x, z, rfl, h4⟩)
    · have hn2 : 2000 < (n : Int) := by omega
      go_enter Try.func16, Try.ntmps16
      go_wp2
      go_ret
      exact starts_mk (by omega) (fun i hi => by obtain ⟨z, h4⟩ := h3'.out i (by omega); exact ⟨x, z, rfl, h4⟩)

end Go.Proofs.Ytkienpbmoilheaa

namespace Go.Proofs.Ytkienpbmoilheaa
open Go.RowKit
set_option linter.unusedSimpArgs false

theorem _root_.Go.RowKit.Below.drewN {B : Nat} {a w : World} (h : Below B a w) (n : Nat) : Below B a (w.drewN n) := ⟨h.os, h.tape, h.output, h.size, h.block⟩

/-- A value is handed back; some orders have been drawn. -/
def Drew (v : Value) (w : World) (e : Ending) (w' : World) : Prop := e = .returned v ∧ ∃ n, w' = w.drewN n

/-- A value is handed back, and nothing that was there has turned. -/
def Says (v : Value) (w : World) (e : Ending) (w' : World) : Prop := e = .returned v ∧ Below w.heap.size w w'

theorem bcell {W w1 : World} (hb : Below W.heap.size W w1) : (∀ b o, b < W.heap.size → w1.cell? ⟨b, o, none⟩ = W.cell? ⟨b, o, none⟩) ∧ (∀ b o, b < W.heap.size → w1.frozen? ⟨b, o, none⟩ = W.frozen? ⟨b, o, none⟩) :=
  ⟨fun b o h => hb.cell (p := ⟨b, o, none⟩) h, fun b o h => hb.frozen (p := ⟨b, o, none⟩) h⟩

/-- Every elder block but b is as it was. -/
structure Apart (b : Nat) (w w' : World) : Prop where
  os : w'.os = w.os
  tape : w'.tape = w.tape
  output : w'.output = w.output
  size : w.heap.size ≤ w'.heap.size
  block : ∀ k, k < w.heap.size → k ≠ b → w'.heap[k]? = w.heap[k]?

theorem Apart.refl (b : Nat) (w : World) : Apart b w w := ⟨rfl, rfl, rfl, Nat.le_refl _, fun _ _ _ => rfl⟩
theorem Apart.trans {b : Nat} {u v w : World} (h : Apart b u v) (k : Apart b v w) : Apart b u w :=
  ⟨k.os.trans h.os, k.tape.trans h.tape, k.output.trans h.output, Nat.le_trans h.size k.size, fun i hi hb => (k.block i (Nat.lt_of_lt_of_le hi h.size) hb).trans (h.block i hi hb)⟩
theorem Else.apart {b : Nat} {w w' : World} (h : Else b w w') : Apart b w w' := ⟨h.os, h.tape, h.output, Nat.le_of_eq h.size.symm, fun k _ hb => h.block k hb⟩
theorem below_apart {b : Nat} {w w' : World} (h : Below w.heap.size w w') : Apart b w w' := ⟨h.os, h.tape, h.output, h.size, fun k hk _ => h.block k hk⟩
theorem Apart.below {b B : Nat} {w w' : World} (h : Apart b w w') (h1 : B ≤ b) (h2 : B ≤ w.heap.size) : Below B w w' :=
  ⟨h.os, h.tape, h.output, h.size, fun k hk => h.block k (by omega) (by omega)⟩
theorem Apart.drewN {b : Nat} {u v : World} (h : Apart b u v) (n : Nat) : Apart b u (v.drewN n) := ⟨h.os, h.tape, h.output, h.size, h.block⟩
theorem Apart.alloc {b : Nat} {u v : World} (h : Apart b u v) (o : Obj) : Apart b u (v.alloc o) :=
  h.trans (below_apart ((Below.refl _ _).alloc (Nat.le_refl _) _))
theorem Apart.setNew {b : Nat} {u v : World} (h : Apart b u v) {p : Addr} (hp : u.heap.size ≤ p.block) (x : Value) : Apart b u (v.setCell p x) :=
  ⟨h.os, h.tape, h.output, by have := h.size; simpa [World.setCell] using this, fun k hk hb => (Below.heap_setCell _ _ _ _ (by omega)).trans (h.block k hk hb)⟩
theorem acell {b : Nat} {w w' : World} (h : Apart b w w') : (∀ x o, x < w.heap.size → x ≠ b → w'.cell? ⟨x, o, none⟩ = w.cell? ⟨x, o, none⟩) ∧ (∀ x o, x < w.heap.size → x ≠ b → w'.frozen? ⟨x, o, none⟩ = w.frozen? ⟨x, o, none⟩) :=
  ⟨fun x _ h1 h2 => World.cell?_of_block (w := w) (h.block x h1 h2), fun x _ h1 h2 => World.frozen?_of_block (w := w) (h.block x h1 h2)⟩

theorem SrcAt.lt {w : World} {b : Nat} {a : Option Addr} {n cap : Nat} (h : SrcAt w b a n cap) : b < w.heap.size := by
  obtain ⟨k, _, hb⟩ := h.src
  rcases Nat.lt_or_ge b w.heap.size with h' | h'
  · exact h'
  · simp [Array.getElem?_eq_none h'] at hb

/-- What does not touch the elder blocks leaves a reader as it is. -/
theorem SrcAt.under {w w' : World} {b : Nat} {a : Option Addr} {n cap : Nat} (h : SrcAt w b a n cap) (hb : Below w.heap.size w w') : SrcAt w' b a n cap := by
  obtain ⟨k, hk, hs⟩ := h.src
  refine ⟨⟨k, hk, (hb.block b h.lt).trans hs⟩, h.few, fun i hi => ?_⟩
  obtain ⟨x, z, h1, h2, h3, h4⟩ := h.row i hi
  exact ⟨x, z, h1, h2, (hb.cell (lt_of_cell h3)).trans h3, h4⟩

theorem SrcAt.mk2 {w w' : World} {b : Nat} {a : Option Addr} {n cap : Nat} (h : SrcAt w b a n cap) (ha : Apart b w w')
    (hs : ∃ k : Nat, k ≤ n ∧ w'.heap[b]? = some (.cells #[.slice a n cap, .int .i64 k] 114 (0, 0))) : SrcAt w' b a n cap := by
  refine ⟨hs, h.few, fun i hi => ?_⟩
  obtain ⟨x, z, h1, h2, h3, h4⟩ := h.row i hi
  have hl := lt_of_cell h3
  rw [add_block] at hl
  exact ⟨x, z, h1, h2, (World.cell?_of_block (w := w) (ha.block _ (by rw [add_block]; exact hl) (by rw [add_block]; exact h2))).trans h3, h4⟩

end Go.Proofs.Ytkienpbmoilheaa

namespace Go
section
variable {P : Program} {ops : Array Oper} {Q : Exit → Act → World → Prop} {md : Region.Mode} {S : World → Prop} {n g : Nat} {T : Act → World → Prop}

/-- Whatever order is picked from here on, S holds behind every operation that is carried out; when 'fuel' of them have come up, the tail stands next, and T. -/
def wpAnyK (P : Program) (md : Region.Mode) (ops : Array Oper) (Q : Exit → Act → World → Prop) (S : World → Prop) (n g : Nat) (T : Act → World → Prop) : Nat → Array Bool → Act → World → Prop
  | 0, listed, a, w => Region.seqB md ops g n listed = true ∧ T a w
  | fuel + 1, listed, a, w =>
    Region.ready md ops listed ≠ [] ∧ ∀ i ∈ Region.ready md ops listed, i < n ∧ wpOp P ops Q i (fun a' w' => S w' ∧ wpAnyK P md ops Q S n g T fuel (listed.setIfInBounds i true) a' w') a w

theorem wpAny_of_k (hL : ∀ listed a w, Region.seqB md ops g n listed = true → T a w → wpAny P md ops Q g listed a w) :
    ∀ (fuel : Nat) (listed : Array Bool) (a : Act) (w : World), wpAnyK P md ops Q S n g T fuel listed a w → wpAny P md ops Q (fuel + g) listed a w
  | 0, listed, a, w, h => by rw [Nat.zero_add]; exact hL _ _ _ h.1 h.2
  | fuel + 1, listed, a, w, h => by
    rw [show fuel + 1 + g = (fuel + g) + 1 by omega]
    exact ⟨fun h0 => absurd h0 h.1, fun i hi => wpOp_mono (fun a' w' h' => wpAny_of_k hL fuel _ a' w' h'.2) (h.2 i hi).2⟩

theorem wpAnyK_first (hs : Region.sinkB md ops n = true) (hc : Region.chainB md ops n = true) (hn : n < ops.size) {i : Nat} (hin : i < n) {oi : Oper} {v : Value} (hi : ops[i]? = some oi)
    (hsel : ∀ (j : Nat) (o : Oper) cs b, ops[j]? = some o → o.op ≠ .select cs b)
    (hQ : ∀ c a w, Q (.panic c) (a.put oi.dst v) w → Q (.panic c) a w) :
    ∀ (fuel : Nat) (listed : Array Bool) (a : Act) (w : World), HeadInv md ops n listed →
      (∀ j oj, ops[j]? = some oj → j ≠ i → listed.getD j true = false → (∀ e ∈ oj.after, Region.binds md e = true → e.on ≠ i) → oi.apart ops oj = true) →
      i ∈ Region.ready md ops listed → YieldsIf P ops S oi v a → S w →
      wpAnyK P md ops Q S n g T fuel (listed.setIfInBounds i true) (a.put oi.dst v) w → wpAnyK P md ops Q S n g T (fuel + 1) listed a w := by
  intro fuel
  induction fuel with
  | zero =>
    intro listed a w inv _ hr hy hS H
    have hun := (mem_ready.1 hr).1
    refine ⟨fun h => (by rw [h] at hr; cases hr), fun j hj => ?_⟩
    have hjn : j < n := by
      rcases Nat.lt_or_ge j n with h | h
      · exact h
      · exact absurd hj (tail_waits hs hc hn inv _ i rfl hin hun j h)
    refine ⟨hjn, ?_⟩
    by_cases hji : j = i
    · subst hji; exact hy.wpOp hi hS ⟨hS, H⟩
    · have := seqB_ready H.1 j (ready_mono hj hji)
      omega
  | succ fuel ih =>
    intro listed a w inv hfree hr hy hS H
    have hun := (mem_ready.1 hr).1
    refine ⟨fun h => (by rw [h] at hr; cases hr), fun j hj => ?_⟩
    have hjn : j < n := by
      rcases Nat.lt_or_ge j n with h | h
      · exact h
      · exact absurd hj (tail_waits hs hc hn inv _ i rfl hin hun j h)
    refine ⟨hjn, ?_⟩
    by_cases hji : j = i
    · subst hji; exact hy.wpOp hi hS ⟨hS, H⟩
    · have h1 := (H.2 j (ready_mono hj hji)).2
      obtain ⟨hjun, oj, hoj, hall⟩ := mem_ready.1 hj
      have hnot : ∀ e ∈ oj.after, Region.binds md e = true → e.on ≠ i := fun e he hb heq => by
        have h1 := hall e he hb
        rw [heq, getD_both hun] at h1
        cases h1
      have h2 := wpOp_putIf hoj (hfree j oj hoj hji hjun hnot) (fun cs b => hsel i oi cs b hi) (fun cs b => hsel j oj cs b hoj) hQ hy h1
      have hfree' : ∀ k ok, ops[k]? = some ok → k ≠ i → (listed.setIfInBounds j true).getD k true = false →
          (∀ e ∈ ok.after, Region.binds md e = true → e.on ≠ i) → oi.apart ops ok = true := fun k ok hk hki hun hno => by
        refine hfree k ok hk hki ?_ hno
        by_cases hjk : j = k
        · subst hjk; exact hjun
        · rw [getD_set_ne true hjk] at hun; exact hun
      refine wpOp_mono (fun a' w' h3 => ?_) h2
      refine ⟨h3.2.1, ih (listed.setIfInBounds j true) a' w' (inv.set hj hjn) hfree' (ready_mono hr (Ne.symm hji)) h3.1 h3.2.1 ?_⟩
      rw [Array.setIfInBounds_comm _ _ hji]
      exact h3.2.2

/-- What has come up so far is closed downwards, and nothing of the tail has. -/
def Region.headB (md : Region.Mode) (ops : Array Oper) (n : Nat) (listed : Array Bool) : Bool :=
  decide (listed.size = ops.size) &&
  ((List.range ops.size).all fun j => !listed.getD j false || match ops[j]? with
    | some oj => oj.after.all fun e => !Region.binds md e || listed.getD e.on false
    | none => true) &&
  ((List.range ops.size).all fun t => decide (t < n) || !listed.getD t true)

theorem Region.headB_spec {listed : Array Bool} (h : Region.headB md ops n listed = true) : HeadInv md ops n listed := by
  simp only [Region.headB, Bool.and_eq_true, decide_eq_true_eq, List.all_eq_true, List.mem_range] at h
  obtain ⟨⟨h1, h2⟩, h3⟩ := h
  refine ⟨h1, fun j oj hj hl e he hb => ?_, fun t ht ht' => ?_⟩
  · have h4 := h2 j (Array.getElem?_eq_some_iff.1 hj).1
    simp only [hj, hl, Bool.not_true, Bool.false_or] at h4
    have h5 := Array.all_eq_true_iff_forall_mem.1 h4 e he
    simpa [hb] using h5
  · have h4 := h3 t ht'
    rw [Bool.or_eq_true, decide_eq_true_eq] at h4
    rcases h4 with h4 | h4
    · omega
    · simpa using h4

/-- Take number i first. -/
theorem wpAnyK_take {i : Nat} {oi : Oper} {v : Value} {fuel : Nat} {listed : Array Bool} {a : Act} {w : World} (hi : ops[i]? = some oi)
    (hB : (Region.noSelect ops && Region.sinkB md ops n && Region.chainB md ops n && decide (n < ops.size) && decide (i < n) && Region.headB md ops n listed && Region.free md ops listed i && (Region.ready md ops listed).contains i) = true)
    (hQ : ∀ c a w, Q (.panic c) (a.put oi.dst v) w → Q (.panic c) a w) (hy : YieldsIf P ops S oi v a) (hS : S w)
    (h : wpAnyK P md ops Q S n g T fuel (listed.setIfInBounds i true) (a.put oi.dst v) w) : wpAnyK P md ops Q S n g T (fuel + 1) listed a w := by
  simp only [Bool.and_eq_true, decide_eq_true_eq] at hB
  obtain ⟨⟨⟨⟨⟨⟨⟨h1, h2⟩, h3⟩, h4⟩, h5⟩, h6⟩, h7⟩, h8⟩ := hB
  exact wpAnyK_first h2 h3 h4 h5 hi (Region.noSelect_spec h1) hQ fuel listed a w (Region.headB_spec h6) (Region.free_spec hi h7) (by simpa using h8) hy hS h

/-- One operation alone may come up. -/
theorem wpAnyK_step {i : Nat} {o : Oper} {fuel : Nat} {listed : Array Bool} {a : Act} {w : World} (ho : ops[i]? = some o) (hr : (decide (Region.ready md ops listed = [i]) && decide (i < n)) = true)
    (h : ∀ K' : Act → World → Prop, Shut (∀ a w, S w → (S w → wpAnyK P md ops Q S n g T fuel (listed.setIfInBounds i true) a w) → K' a w) → if Region.wanted o (yielded ops a.tmps) = true then Oper.wp P o a w K' Q else K' (a.put o.dst undef) w) :
    wpAnyK P md ops Q S n g T (fuel + 1) listed a w := by
  simp only [Bool.and_eq_true, decide_eq_true_eq] at hr
  refine ⟨fun h0 => (by rw [hr.1] at h0; cases h0), fun j hj => ?_⟩
  rw [hr.1] at hj
  obtain rfl : j = i := by simpa using hj
  exact ⟨hr.2, wpOp_step ho (fun K' hK => h K' (fun a w hS hW => hK a w ⟨hS, hW hS⟩))⟩

/-- The tail stands next. -/
theorem wpAnyK_done {listed : Array Bool} {a : Act} {w : World} (hB : Region.seqB md ops g n listed = true) (h : T a w) : wpAnyK P md ops Q S n g T 0 listed a w := ⟨hB, h⟩

/-- The beginning: the operations from number n on are left as a list. -/
theorem wp_region_keeps {id : Nat} {l : List Oper} {a : Act} {w : World} (S : World → Prop) (n g : Nat) (hm : P.follows .mixedOrders = true) (hn : decide (l.length = n + g) = true) (hS : S w.drew)
    (h : S w.drew → wpAnyK P .any l.toArray Q S n g (fun a w => wpList P l.toArray Q (l.drop n) a w) n (Array.replicate l.toArray.size false) a w.drew) : (Code.region id l.toArray true).wp P Q a w := by
  rw [decide_eq_true_eq] at hn
  refine wp_region_any hm ?_
  have := wpAny_of_k (fun listed a w hB hT => by
    have h1 := wpAny_of_seq (md := .any) (Q' := Q) (l.drop n) n listed a w (fun j => by simp [List.getElem?_drop]) (by rw [List.length_drop, show l.length - n = g by omega]; exact hB) hT
    rwa [List.length_drop, show l.length - n = g by omega] at h1) _ _ _ _ (h hS)
  rw [show l.toArray.size = n + g by simpa using hn] at this ⊢
  exact this

end
end Go

namespace Go.Proofs.Ytkienpbmoilheaa
open Go.RowKit
set_option linter.unusedSimpArgs false

/-- A number is handed back; of the elder blocks only the reader's has turned. -/
def Takes (P : Int → Prop) (b : Nat) (a : Option Addr) (n cap : Nat) (w : World) (e : Ending) (w' : World) : Prop :=
  ∃ z : Int, P z ∧ e = .returned (.int .i64 z) ∧ SrcAt w' b a n cap ∧ Apart b w w'

set_option maxHeartbeats 800000 in
theorem pick_of (P : Int → Prop) (hP : ∀ z, P z → In64 z) (lb len lc : Nat) (h1 : 1 ≤ len) (h2 : len ≤ 1000000) (b : Nat) (hb : lb ≠ b) (a : Option Addr) (n cap : Nat) (w : World) (h : SrcAt w b a n cap)
    (hl : ∀ i, i < len → ∃ z, w.cell? ⟨lb, i, none⟩ = some (.int .i64 z) ∧ P z) :
    Calls Try.prog 20 #[.pointer (some ⟨b, 0, none⟩), .slice (some ⟨lb, 0, none⟩) len lc] w (Takes P b a n cap w) := by
  have HS := Lib.hid h
  have HL := Lib.hid hl
  clear h hl
  go_enter Try.func20, Try.ntmps20
  go_wp2_with fail
  refine (n_any _ (by omega) (by omega) b a n cap _ HS.out).mono ?_
  rintro e w1 ⟨r, hr, rfl, hs, he⟩
  have HS1 := Lib.hid hs
  have HE1 := Lib.hid he
  clear hs he
  obtain ⟨k, rfl⟩ := Int.eq_ofNat_of_zero_le hr.1
  have hk : k < len := by omega
  obtain ⟨z, hz, hzi⟩ := HL.out k hk
  have hc : w1.cell? ⟨lb, k, none⟩ = some (.int .i64 z) := (HE1.out.cell (p := ⟨lb, k, none⟩) hb).trans hz
  have HZ := Lib.hid hzi
  have hzb := hP z hzi
  clear hz hzi
  go_wp2_with fail
  go_ret
  exact ⟨z, HZ.out, rfl, HS1.out, HE1.out.apart⟩

end Go.Proofs.Ytkienpbmoilheaa
