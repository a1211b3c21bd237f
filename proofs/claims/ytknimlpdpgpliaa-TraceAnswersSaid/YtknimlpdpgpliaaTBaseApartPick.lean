/- Contracts of the reader of numbers (package keep): Mod, Raw, N, New, Fraction. By the verifier's side. -/
import Derived.Test.YtknimlpdpgpliaaProg
import Derived.WalkKit
import Derived.Outline
import Derived.Below
import Derived.Lib.Hide
import Derived.IntWalk
import Derived.BigQuiet
import Derived.Deep.QuietTactic
import Derived.LoopTactic
import Derived.BigRegion
import Derived.Laws.ResultCell
namespace Go.Proofs.Ytknimlpdpgpliaa
open Go.RowKit

abbrev In64 (x : Int) : Prop := -9223372036854775808 ≤ x ∧ x ≤ 9223372036854775807

theorem ret_int {k : IntKind} {a b : Int} (h : a = b) : Ending.returned (.int k a) = .returned (.int k b) := by rw [h]

theorem tmod_facts (x n : Int) (hn : 1 ≤ n) : x.tmod n < n ∧ -n < x.tmod n ∧ (0 ≤ x → x.tmod n = x % n) ∧ (x.tmod n < 0 → x.tmod n + n = x % n) ∧ (0 ≤ x.tmod n → x.tmod n = x % n) := by
  have h1 := Int.tmod_lt_of_pos x (show 0 < n by omega)
  have h2 : -n < x.tmod n := by
    have := Int.lt_tmod_of_pos x (show 0 < n by omega)
    exact this
  refine ⟨h1, h2, fun h => Int.tmod_eq_emod_of_nonneg h, ?_, ?_⟩
  · intro h
    have e := Int.tmod_add_mul_tdiv x n
    have : (x.tmod n + n) % n = x % n := by
      rw [Int.add_emod_right]
      conv => rhs; rw [← e]
      rw [Int.add_mul_emod_self_left]
    rw [← this, Int.emod_eq_of_lt (by omega) (by omega)]
  · intro h
    have e := Int.tmod_add_mul_tdiv x n
    have : (x.tmod n) % n = x % n := by
      conv => rhs; rw [← e]
      rw [Int.add_mul_emod_self_left]
    rw [← this, Int.emod_eq_of_lt (by omega) (by omega)]

set_option maxHeartbeats 400000 in
theorem mod_any (x n : Int) (hx : In64 x) (hn : 1 ≤ n) (hn2 : n ≤ 9223372036854775807) (w : World) :
    Calls Try.prog 23 #[.int .i64 x, .int .i64 n] w fun e w' => e = .returned (.int .i64 (x % n)) ∧ w = w' := by
  obtain ⟨hx1, hx2⟩ := hx
  have hf := tmod_facts x n hn
  have b1 := hf.1
  have b2 := hf.2.1
  have H := Lib.hid hf
  clear hf
  have hn1 : ¬ n < 1 := by omega
  have hn0 : ¬ n = 0 := by omega
  go_enter Try.func23, Try.ntmps23
  go_wp2
  · go_ret
    have h : x.tmod n < 0 := by assumption
    exact ⟨ret_int (H.out.2.2.2.1 h), rfl⟩
  · go_ret
    have h : 0 ≤ x.tmod n := by assumption
    exact ⟨ret_int (H.out.2.2.2.2 h), rfl⟩

/-- Every block but b is as it was (new blocks may stand behind). -/
structure Else (b : Nat) (w w' : World) : Prop where
  os : w'.os = w.os
  tape : w'.tape = w.tape
  output : w'.output = w.output
  size : w'.heap.size = w.heap.size
  block : ∀ k, k ≠ b → w'.heap[k]? = w.heap[k]?

theorem Else.refl (b : Nat) (w : World) : Else b w w := ⟨rfl, rfl, rfl, rfl, fun _ _ => rfl⟩
theorem Else.trans {b : Nat} {u v w : World} (h : Else b u v) (k : Else b v w) : Else b u w :=
  ⟨k.os.trans h.os, k.tape.trans h.tape, k.output.trans h.output, k.size.trans h.size, fun i hi => (k.block i hi).trans (h.block i hi)⟩
theorem Else.drew {b : Nat} {u v : World} (h : Else b u v) : Else b u v.drew := ⟨h.os, h.tape, h.output, h.size, h.block⟩
theorem Else.drewN {b : Nat} {u v : World} (h : Else b u v) (n : Nat) : Else b u (v.drewN n) := ⟨h.os, h.tape, h.output, h.size, h.block⟩
theorem Else.setCell {b : Nat} {u v : World} (h : Else b u v) (o : Nat) (x : Value) : Else b u (v.setCell ⟨b, o, none⟩ x) :=
  h.trans ⟨rfl, rfl, rfl, by simp [World.setCell], fun k hk => Below.heap_setCell _ _ _ _ hk⟩
theorem Else.cell {b : Nat} {w w' : World} (h : Else b w w') {p : Addr} (hp : p.block ≠ b) : w'.cell? p = w.cell? p := World.cell?_of_block (w := w) (h.block p.block hp)
theorem Else.frozen {b : Nat} {w w' : World} (h : Else b w w') {p : Addr} (hp : p.block ≠ b) : w'.frozen? p = w.frozen? p := World.frozen?_of_block (w := w) (h.block p.block hp)
theorem Else.below {b B : Nat} {w w' : World} (h : Else b w w') (hB : B ≤ b) : Below B w w' :=
  ⟨h.os, h.tape, h.output, Nat.le_of_eq h.size.symm, fun k hk => h.block k (by omega)⟩

/-- Block b is a reader of numbers over the slice v (n of them), and has read k of them. -/
structure SrcAt (w : World) (b : Nat) (a : Option Addr) (n cap : Nat) : Prop where
  src : ∃ k : Nat, k ≤ n ∧ w.heap[b]? = some (.cells #[.slice a n cap, .int .i64 k] 78 (0, 0))
  few : n ≤ 2000
  row : ∀ i, i < n → ∃ x z, a = some x ∧ x.block ≠ b ∧ w.cell? (x.add i) = some (.int .i64 z) ∧ In64 z

theorem SrcAt.keep {w w' : World} {b : Nat} {a : Option Addr} {n cap : Nat} (h : SrcAt w b a n cap) (k : Nat) (hk : k ≤ n)
    (hb : w'.heap[b]? = some (.cells #[.slice a n cap, .int .i64 k] 78 (0, 0))) (he : Else b w w') : SrcAt w' b a n cap :=
  ⟨⟨k, hk, hb⟩, h.few, fun i hi => by
    obtain ⟨x, z, h1, h2, h3, h4⟩ := h.row i hi
    exact ⟨x, z, h1, h2, by rw [he.cell (by unfold Addr.add; split <;> exact h2)]; exact h3, h4⟩⟩

theorem src_setCell {w : World} {b : Nat} {v x u : Value} {t : TypeId} (h : w.heap[b]? = some (.cells #[v, x] t (0, 0))) : (w.setCell ⟨b, 1, none⟩ u).heap[b]? = some (.cells #[v, u] t (0, 0)) := by
  simp [World.setCell, Array.getElem?_modify, h]

/-- A number is handed back; only the reader's block has turned. -/
def Reads (P : Int → Prop) (b : Nat) (a : Option Addr) (n cap : Nat) (w : World) (e : Ending) (w' : World) : Prop :=
  ∃ z : Int, P z ∧ e = .returned (.int .i64 z) ∧ SrcAt w' b a n cap ∧ Else b w w'

set_option maxHeartbeats 400000 in
theorem raw_any (b : Nat) (a : Option Addr) (n cap : Nat) (w : World) (h : SrcAt w b a n cap) :
    Calls Try.prog 93 #[.pointer (some ⟨b, 0, none⟩)] w (Reads In64 b a n cap w) := by
  have h' := Lib.hid h
  obtain ⟨⟨k, hk, hb⟩, hfew, hrow⟩ := h
  have hc0 : w.cell? ⟨b, 0, none⟩ = some (.slice a n cap) := by simp [World.cell?, hb]
  have hc1 : w.cell? ⟨b, 1, none⟩ = some (.int .i64 k) := by simp [World.cell?, hb]
  have hf1 : w.frozen? ⟨b, 1, none⟩ = false := by simp [World.frozen?, hb]
  have hb' := Lib.hid hb
  clear hb
  by_cases hlt : k < n
  · obtain ⟨x, z, rfl, hx, hz, hzin⟩ := hrow k hlt
    clear hrow
    have hld : ∀ (m : Nat) (v : Value), ((w.drewN m).setCell ⟨b, 1, none⟩ v).cell? (x.add k) = some (.int .i64 z) := fun m v => by
      rw [World.cell?_of_block (w := w.drewN m) (Below.heap_setCell _ _ _ _ (by unfold Addr.add; split <;> exact hx))]; exact hz
    clear hz
    go_enter Try.func93, Try.ntmps93
    go_wp2
    go_quiet (fail)
    go_wp2
    have hw1 : IntKind.i64.wrap ((k : Nat) : Int) = k := IntWalk.i64_in _ ⟨by omega, by omega⟩
    have hw2 : (0 : Int) ≤ (k : Int) := by omega
    have hw3 : ((k : Nat) : Int) < (n : Int) := by omega
    go_quiet (fail)
    go_wp2
    go_ret
    refine ⟨z, hzin, rfl, h'.out.keep (k + 1) (by omega) ?_ ?_, ?_⟩
    · exact src_setCell (w := w.drewN _) hb'.out
    · exact (((Else.refl _ _).drewN _).setCell _ _).drewN _
    · exact (((Else.refl _ _).drewN _).setCell _ _).drewN _
  · clear hrow
    go_enter Try.func93, Try.ntmps93
    go_wp2
    go_quiet (fail)
    go_wp2
    go_ret
    exact ⟨0, ⟨by decide, by decide⟩, rfl, h'.out.keep k (by omega) hb'.out ((Else.refl _ _).drewN _), (Else.refl _ _).drewN _⟩

set_option maxHeartbeats 400000 in
theorem n_any (m : Int) (hm : 1 ≤ m) (hm2 : m ≤ 9223372036854775807) (b : Nat) (a : Option Addr) (n cap : Nat) (w : World) (h : SrcAt w b a n cap) :
    Calls Try.prog 40 #[.pointer (some ⟨b, 0, none⟩), .int .i64 m] w (Reads (fun r => 0 ≤ r ∧ r < m) b a n cap w) := by
  have h' := Lib.hid h
  clear h
  go_enter Try.func40, Try.ntmps40
  go_wp2_with fail
  refine (raw_any b a n cap _ h'.out).mono ?_
  rintro e w1 ⟨z, hz, rfl, hs, he⟩
  have H := Lib.hid (And.intro hs he)
  clear hs he
  go_wp2_with fail
  refine (mod_any z m hz hm hm2 _).mono ?_
  rintro e w2 ⟨rfl, rfl⟩
  have h1 := Int.emod_nonneg z (show m ≠ 0 by omega)
  have h2 := Int.emod_lt_of_pos z (show 0 < m by omega)
  go_wp2_with fail
  go_ret
  exact ⟨_, ⟨h1, h2⟩, rfl, H.out.1, H.out.2⟩

/-- The list of numbers that came in. -/
def RowAt (w : World) (a : Option Addr) (n cap : Nat) : Prop :=
  (a = none ∧ n = 0 ∧ cap = 0) ∨ ∃ x, a = some x ∧ n ≤ cap ∧ cap ≤ maxLen ∧ ∀ i, i < cap → ∃ z, w.cell? (x.add i) = some (.int .i64 z) ∧ In64 z

/-- A new reader stands behind everything else. -/
def Starts (w : World) (e : Ending) (w' : World) : Prop :=
  e = .returned (.pointer (some ⟨w.heap.size, 0, none⟩)) ∧ Below w.heap.size w w' ∧ w'.heap.size = w.heap.size + 1 ∧ ∃ a n cap, SrcAt w' w.heap.size a n cap

theorem lt_of_cell {w : World} {p : Addr} {v : Value} (h : w.cell? p = some v) : p.block < w.heap.size := by
  rcases Nat.lt_or_ge p.block w.heap.size with h' | h'
  · exact h'
  · simp [World.cell?, Array.getElem?_eq_none h'] at h

theorem add_block (x : Addr) (i : Nat) : (x.add i).block = x.block := by unfold Addr.add; split <;> rfl

theorem RowAt.under {w w' : World} {a : Option Addr} {n cap : Nat} (h : RowAt w a n cap) (hb : Below w.heap.size w w') : RowAt w' a n cap := by
  rcases h with h | ⟨x, h1, h2, h3, h4⟩
  · exact .inl h
  · exact .inr ⟨x, h1, h2, h3, fun i hi => by
      obtain ⟨z, h5, h6⟩ := h4 i hi
      exact ⟨z, (hb.cell (lt_of_cell h5)).trans h5, h6⟩⟩

theorem starts_mk {w : World} {a : Option Addr} {m cap : Nat} (hm : m ≤ 2000) (hr : ∀ i, i < m → ∃ x z, a = some x ∧ w.cell? (x.add i) = some (.int .i64 z) ∧ In64 z) :
    Starts w (.returned (.pointer (some ⟨w.heap.size, 0, none⟩))) (w.alloc (.cells #[.slice a m cap, .int .i64 0] 78)) := by
  have hb : Below w.heap.size w (w.alloc (.cells #[.slice a m cap, .int .i64 0] 78)) := (Below.refl _ _).alloc (Nat.le_refl _) _
  refine ⟨rfl, hb, by simp, a, m, cap, ⟨0, Nat.zero_le _, ?_⟩, hm, fun i hi => ?_⟩
  · show (w.heap.push _)[w.heap.size]? = _
    simp
  · obtain ⟨x, z, h1, h2, h3⟩ := hr i hi
    have hlt := lt_of_cell h2
    rw [add_block] at hlt
    exact ⟨x, z, h1, by omega, (hb.cell (by rw [add_block]; exact hlt)).trans h2, h3⟩

set_option maxHeartbeats 400000 in
theorem new_any (a : Option Addr) (n cap : Nat) (w : World) (h : RowAt w a n cap) :
    Calls Try.prog 15 #[.slice a n cap] w (Starts w) := by
  rcases h with ⟨rfl, rfl, rfl⟩ | ⟨x, rfl, h1, h2, h3⟩
  · go_enter Try.func15, Try.ntmps15
    go_wp2
    go_ret
    exact starts_mk (by omega) (fun i hi => by omega)
  · unfold maxLen at h2
    have h3' := Lib.hid h3
    clear h3
    by_cases hn : n ≤ 2000
    · go_enter Try.func15, Try.ntmps15
      go_wp2
      go_ret
      exact starts_mk hn (fun i hi => by obtain ⟨z, h4⟩ := h3'.out i (by omega); exact ⟨x, z, rfl, h4⟩)
    · have hn2 : 2000 < (n : Int) := by omega
      go_enter Try.func15, Try.ntmps15
      go_wp2
      go_ret
      exact starts_mk (by omega) (fun i hi => by obtain ⟨z, h4⟩ := h3'.out i (by omega); exact ⟨x, z, rfl, h4⟩)

end Go.Proofs.Ytknimlpdpgpliaa

namespace Go.Proofs.Ytknimlpdpgpliaa
open Go.RowKit
set_option linter.unusedSimpArgs false

theorem _root_.Go.RowKit.Below.drewN {B : Nat} {a w : World} (h : Below B a w) (n : Nat) : Below B a (w.drewN n) := ⟨h.os, h.tape, h.output, h.size, h.block⟩

/-- A value is handed back; some orders have been drawn. -/
def Drew (v : Value) (w : World) (e : Ending) (w' : World) : Prop := e = .returned v ∧ ∃ n, w' = w.drewN n

/-- A value is handed back, and nothing that was there has turned. -/
def Says (v : Value) (w : World) (e : Ending) (w' : World) : Prop := e = .returned v ∧ Below w.heap.size w w'

/-- Every elder block but b is as it was. -/
structure Apart (b : Nat) (w w' : World) : Prop where
  os : w'.os = w.os
  tape : w'.tape = w.tape
  output : w'.output = w.output
  size : w.heap.size ≤ w'.heap.size
  block : ∀ k, k < w.heap.size → k ≠ b → w'.heap[k]? = w.heap[k]?

theorem Apart.refl (b : Nat) (w : World) : Apart b w w := ⟨rfl, rfl, rfl, Nat.le_refl _, fun _ _ _ => rfl⟩
theorem Apart.trans {b : Nat} {u v w : World} (h : Apart b u v) (k : Apart b v w) : Apart b u w :=
  ⟨k.os.trans h.os, k.tape.trans h.tape, k.output.trans h.output, Nat.le_trans h.size k.size, fun i hi hb => (k.block i (Nat.lt_of_lt_of_le hi h.size) hb).trans (h.block i hi hb)⟩
theorem Else.apart {b : Nat} {w w' : World} (h : Else b w w') : Apart b w w' := ⟨h.os, h.tape, h.output, Nat.le_of_eq h.size.symm, fun k _ hb => h.block k hb⟩
theorem below_apart {b : Nat} {w w' : World} (h : Below w.heap.size w w') : Apart b w w' := ⟨h.os, h.tape, h.output, h.size, fun k hk _ => h.block k hk⟩
theorem Apart.below {b B : Nat} {w w' : World} (h : Apart b w w') (h1 : B ≤ b) (h2 : B ≤ w.heap.size) : Below B w w' :=
  ⟨h.os, h.tape, h.output, h.size, fun k hk => h.block k (by omega) (by omega)⟩
theorem Apart.drewN {b : Nat} {u v : World} (h : Apart b u v) (n : Nat) : Apart b u (v.drewN n) := ⟨h.os, h.tape, h.output, h.size, h.block⟩
theorem Apart.alloc {b : Nat} {u v : World} (h : Apart b u v) (o : Obj) : Apart b u (v.alloc o) :=
  h.trans (below_apart ((Below.refl _ _).alloc (Nat.le_refl _) _))
theorem Apart.setNew {b : Nat} {u v : World} (h : Apart b u v) {p : Addr} (hp : u.heap.size ≤ p.block) (x : Value) : Apart b u (v.setCell p x) :=
  ⟨h.os, h.tape, h.output, by have := h.size; simpa [World.setCell] using this, fun k hk hb => (Below.heap_setCell _ _ _ _ (by omega)).trans (h.block k hk hb)⟩
theorem acell {b : Nat} {w w' : World} (h : Apart b w w') : (∀ x o, x < w.heap.size → x ≠ b → w'.cell? ⟨x, o, none⟩ = w.cell? ⟨x, o, none⟩) ∧ (∀ x o, x < w.heap.size → x ≠ b → w'.frozen? ⟨x, o, none⟩ = w.frozen? ⟨x, o, none⟩) :=
  ⟨fun x _ h1 h2 => World.cell?_of_block (w := w) (h.block x h1 h2), fun x _ h1 h2 => World.frozen?_of_block (w := w) (h.block x h1 h2)⟩

theorem SrcAt.lt {w : World} {b : Nat} {a : Option Addr} {n cap : Nat} (h : SrcAt w b a n cap) : b < w.heap.size := by
  obtain ⟨k, _, hb⟩ := h.src
  rcases Nat.lt_or_ge b w.heap.size with h' | h'
  · exact h'
  · simp [Array.getElem?_eq_none h'] at hb

/-- What does not touch the elder blocks leaves a reader as it is. -/
theorem SrcAt.under {w w' : World} {b : Nat} {a : Option Addr} {n cap : Nat} (h : SrcAt w b a n cap) (hb : Below w.heap.size w w') : SrcAt w' b a n cap := by
  obtain ⟨k, hk, hs⟩ := h.src
  refine ⟨⟨k, hk, (hb.block b h.lt).trans hs⟩, h.few, fun i hi => ?_⟩
  obtain ⟨x, z, h1, h2, h3, h4⟩ := h.row i hi
  exact ⟨x, z, h1, h2, (hb.cell (lt_of_cell h3)).trans h3, h4⟩

theorem SrcAt.mk2 {w w' : World} {b : Nat} {a : Option Addr} {n cap : Nat} (h : SrcAt w b a n cap) (ha : Apart b w w')
    (hs : ∃ k : Nat, k ≤ n ∧ w'.heap[b]? = some (.cells #[.slice a n cap, .int .i64 k] 78 (0, 0))) : SrcAt w' b a n cap := by
  refine ⟨hs, h.few, fun i hi => ?_⟩
  obtain ⟨x, z, h1, h2, h3, h4⟩ := h.row i hi
  have hl := lt_of_cell h3
  rw [add_block] at hl
  exact ⟨x, z, h1, h2, (World.cell?_of_block (w := w) (ha.block _ (by rw [add_block]; exact hl) (by rw [add_block]; exact h2))).trans h3, h4⟩

end Go.Proofs.Ytknimlpdpgpliaa

namespace Go.Proofs.Ytknimlpdpgpliaa
open Go.RowKit
set_option linter.unusedSimpArgs false

/-- A number is handed back; of the elder blocks only the reader's has turned. -/
def Takes (P : Int → Prop) (b : Nat) (a : Option Addr) (n cap : Nat) (w : World) (e : Ending) (w' : World) : Prop :=
  ∃ z : Int, P z ∧ e = .returned (.int .i64 z) ∧ SrcAt w' b a n cap ∧ Apart b w w'

set_option maxHeartbeats 800000 in
theorem pick_of (P : Int → Prop) (hP : ∀ z, P z → In64 z) (lb len lc : Nat) (h1 : 1 ≤ len) (h2 : len ≤ 1000000) (b : Nat) (hb : lb ≠ b) (a : Option Addr) (n cap : Nat) (w : World) (h : SrcAt w b a n cap)
    (hl : ∀ i, i < len → ∃ z, w.cell? ⟨lb, i, none⟩ = some (.int .i64 z) ∧ P z) :
    Calls Try.prog 41 #[.pointer (some ⟨b, 0, none⟩), .slice (some ⟨lb, 0, none⟩) len lc] w (Takes P b a n cap w) := by
  have HS := Lib.hid h
  have HL := Lib.hid hl
  clear h hl
  go_enter Try.func41, Try.ntmps41
  go_wp2_with fail
  refine (n_any _ (by omega) (by omega) b a n cap _ HS.out).mono ?_
  rintro e w1 ⟨r, hr, rfl, hs, he⟩
  have HS1 := Lib.hid hs
  have HE1 := Lib.hid he
  clear hs he
  obtain ⟨k, rfl⟩ := Int.eq_ofNat_of_zero_le hr.1
  have hk : k < len := by omega
  obtain ⟨z, hz, hzi⟩ := HL.out k hk
  have hc : w1.cell? ⟨lb, k, none⟩ = some (.int .i64 z) := (HE1.out.cell (p := ⟨lb, k, none⟩) hb).trans hz
  have HZ := Lib.hid hzi
  have hzb := hP z hzi
  clear hz hzi
  go_wp2_with fail
  go_ret
  exact ⟨z, HZ.out, rfl, HS1.out, HE1.out.apart⟩

theorem pick_any (lb len lc : Nat) (h1 : 1 ≤ len) (h2 : len ≤ 1000000) (b : Nat) (hb : lb ≠ b) (a : Option Addr) (n cap : Nat) (w : World) (h : SrcAt w b a n cap)
    (hl : ∀ i, i < len → ∃ z, w.cell? ⟨lb, i, none⟩ = some (.int .i64 z) ∧ In64 z) :
    Calls Try.prog 41 #[.pointer (some ⟨b, 0, none⟩), .slice (some ⟨lb, 0, none⟩) len lc] w (Takes In64 b a n cap w) :=
  pick_of In64 (fun _ h => h) lb len lc h1 h2 b hb a n cap w h hl

theorem list_newP (P : Int → Prop) (w : World) (xs : List Int) (t : TypeId) (h : ∀ z ∈ xs, P z) : ∀ i, i < xs.length → ∃ z, (w.alloc (.cells (xs.map (Value.int .i64)).toArray t)).cell? ⟨w.heap.size, i, none⟩ = some (.int .i64 z) ∧ P z := by
  intro i hi
  refine ⟨xs[i], ?_, h _ (List.getElem_mem hi)⟩
  rw [World.cell?_alloc_new]
  simp [hi]

theorem list_new (w : World) (xs : List Int) (t : TypeId) (h : ∀ z ∈ xs, In64 z) : ∀ i, i < xs.length → ∃ z, (w.alloc (.cells (xs.map (Value.int .i64)).toArray t)).cell? ⟨w.heap.size, i, none⟩ = some (.int .i64 z) ∧ In64 z :=
  list_newP In64 w xs t h

end Go.Proofs.Ytknimlpdpgpliaa
