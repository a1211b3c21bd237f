/- Contract of keep.Longer. By the verifier's side. -/
import Derived.Test.YtknimlpdpgpliaaECurFCurG
import Derived.Test.YtknimlpdpgpliaaECurN
import Derived.Test.YtknimlpdpgpliaaEBaseApartPickKeepS
import Derived.Deep.AppendLies
import Derived.Deep.RegionHeld3
import Derived.StillTailTactics
import Derived.RegionTactic
import Derived.Deep.DeepCutAuto
namespace Go.Proofs.Ytknimlpdpgpliaa
open Go.RowKit
set_option linter.unusedSimpArgs false

/-- Block b's three cells, and that all below N is as in W. -/
abbrev Kept3 (b N : Nat) (W : World) (x0 x1 x2 : Value) (w' : World) : Prop :=
  w'.cell? ⟨b, 0, none⟩ = some x0 ∧ w'.cell? ⟨b, 1, none⟩ = some x1 ∧ w'.cell? ⟨b, 2, none⟩ = some x2 ∧ Hid (Below N W w')

theorem kept_below {b N : Nat} {W w w' : World} {x0 x1 x2 : Value} (hN : b < N) (h : Kept3 b N W x0 x1 x2 w) (hb : Below N w w') : Kept3 b N W x0 x1 x2 w' :=
  ⟨(hb.cell (p := ⟨b, 0, none⟩) hN).trans h.1, (hb.cell (p := ⟨b, 1, none⟩) hN).trans h.2.1, (hb.cell (p := ⟨b, 2, none⟩) hN).trans h.2.2.1, h.2.2.2.out.trans hb⟩
theorem kept_drew {b N : Nat} {W w : World} {x0 x1 x2 : Value} (h : Kept3 b N W x0 x1 x2 w) : Kept3 b N W x0 x1 x2 w.drew := ⟨h.1, h.2.1, h.2.2.1, h.2.2.2.out.drew⟩
theorem kept_alloc {b N : Nat} {W w : World} {x0 x1 x2 : Value} (hN : b < N) (hW : N ≤ W.heap.size) (h : Kept3 b N W x0 x1 x2 w) (o : Obj) : Kept3 b N W x0 x1 x2 (w.alloc o) :=
  kept_below hN h ((Below.refl _ _).alloc (Nat.le_trans hW h.2.2.2.out.size) o)
theorem kept_set {b N : Nat} {W w : World} {x0 x1 x2 : Value} (hN : b < N) (h : Kept3 b N W x0 x1 x2 w) {p : Addr} (hp : N ≤ p.block) (v : Value) : Kept3 b N W x0 x1 x2 (w.setCell p v) :=
  kept_below hN h ((Below.refl _ _).setCell hp v)
theorem kept_grown {b N : Nat} {W w w' : World} {x0 x1 x2 : Value} (hN : b < N) (hW : N ≤ W.heap.size) (h : Kept3 b N W x0 x1 x2 w) {row : Option Nat} (hg : w.grownBy w' row) (hr : ∀ j, row = some j → N ≤ j) : Kept3 b N W x0 x1 x2 w' :=
  kept_below hN h ((Below.refl _ _).grown hg (Nat.le_trans hW h.2.2.2.out.size) hr)

theorem kept_swap {b N : Nat} {W u : World} {x0 x1 x2 : Value} {o : Obj} (hN : b < N) (h : Kept3 b N W x0 x1 x2 (u.alloc o)) (o' : Obj) (hu : N ≤ u.heap.size) : Kept3 b N W x0 x1 x2 (u.alloc o') := by
  have e : ∀ k, k < N → (u.alloc o').heap[k]? = (u.alloc o).heap[k]? := fun k hk => by
    have h1 := ((Below.refl u.heap.size u).alloc (Nat.le_refl _) o).block k (by omega)
    have h2 := ((Below.refl u.heap.size u).alloc (Nat.le_refl _) o').block k (by omega)
    exact h2.trans h1.symm
  obtain ⟨h1, h2, h3, h4⟩ := h
  refine ⟨(World.cell?_of_block (w := u.alloc o) (a := ⟨b, 0, none⟩) (e b hN)).trans h1, (World.cell?_of_block (w := u.alloc o) (a := ⟨b, 1, none⟩) (e b hN)).trans h2, (World.cell?_of_block (w := u.alloc o) (a := ⟨b, 2, none⟩) (e b hN)).trans h3, ?_⟩
  have h5 := h4.out
  exact Lib.hid ⟨h5.os, h5.tape, h5.output, by have := h5.size; simp at this ⊢; exact this, fun k hk => (e k hk).trans (h5.block k hk)⟩

theorem kept_allocD {b N : Nat} {W w : World} {x0 x1 x2 : Value} (hN : b < N) (hW : N ≤ W.heap.size) (h : Kept3 b N W x0 x1 x2 w.drew) (o : Obj) : Kept3 b N W x0 x1 x2 (w.alloc o).drew := kept_alloc (w := w.drew) hN hW h o
theorem kept_swapD {b N : Nat} {W u : World} {x0 x1 x2 : Value} {o : Obj} (hN : b < N) (h : Kept3 b N W x0 x1 x2 (u.alloc o).drew) (o' : Obj) (hu : N ≤ u.heap.size) : Kept3 b N W x0 x1 x2 (u.alloc o').drew := kept_swap (u := u.drew) hN h o' hu

theorem grownRules {w w' : World} {g m c : Nat} (h : w.grownBy w' (Value.slice (some ⟨g, 0, none⟩) m c).ownBlock) :
    (∀ b o, b < w.heap.size → ¬ b = g → w'.cell? ⟨b, o, none⟩ = w.cell? ⟨b, o, none⟩) ∧ (∀ b o, b < w.heap.size → ¬ b = g → w'.frozen? ⟨b, o, none⟩ = w.frozen? ⟨b, o, none⟩) :=
  ⟨fun b _ hb hg => World.cell?_of_block (w := w) (h.block b hb (fun e => hg (Option.some.inj e))), fun b _ hb hg => World.frozen?_of_block (w := w) (h.block b hb (fun e => hg (Option.some.inj e)))⟩

theorem kept_out {b N : Nat} {W w' : World} {x0 x1 x2 : Value} (h : Kept3 b N W x0 x1 x2 w') : Hid (Below N W w') := h.2.2.2
theorem Cur3.drewL {w : World} {b : Nat} {x0 x1 x2 : Value} (h : Cur3 w b x0 x1 x2) : Cur3 w.drew b x0 x1 x2 := ⟨h.c0, h.c1, h.c2, h.f0, h.f1, h.f2⟩
theorem Cur3.grownN {w w' : World} {b : Nat} {x0 x1 x2 : Value} (h : Cur3 w b x0 x1 x2) {row : Option Nat} (hg : w.grownBy w' row) (hr : ¬ row = some b) : Cur3 w' b x0 x1 x2 := by
  have hb : w'.heap[b]? = w.heap[b]? := hg.block b h.lt (fun e => hr e.symm)
  exact ⟨(World.cell?_of_block (w := w) (a := ⟨b, 0, none⟩) hb).trans h.c0, (World.cell?_of_block (w := w) (a := ⟨b, 1, none⟩) hb).trans h.c1, (World.cell?_of_block (w := w) (a := ⟨b, 2, none⟩) hb).trans h.c2,
    (World.frozen?_of_block (w := w) (a := ⟨b, 0, none⟩) hb).trans h.f0, (World.frozen?_of_block (w := w) (a := ⟨b, 1, none⟩) hb).trans h.f1, (World.frozen?_of_block (w := w) (a := ⟨b, 2, none⟩) hb).trans h.f2⟩
theorem hatOf {g r H m c : Nat} (h : (Value.slice (some ⟨r, 0, none⟩) m c).ownBlock = some g ∨ g = H) : g = r ∨ g = H := h.imp (fun e => (Option.some.inj e).symm) id
theorem Cur3.grownS {w w' : World} {b r m c : Nat} {x0 x1 x2 : Value} (h : Cur3 w b x0 x1 x2) (hg : w.grownBy w' (Value.slice (some ⟨r, 0, none⟩) m c).ownBlock) (hr : ¬ r = b) : Cur3 w' b x0 x1 x2 :=
  h.grownN hg (fun e => hr (Option.some.inj e))
theorem owns_ne {w : World} {base g cap k : Nat} {xs : List Value} (h : w.ownsRow base 3 1 (.slice (some ⟨g, 0, none⟩) k cap) k xs) {p : Addr} (hp : ¬ g = p.block) (x : Value) : (w.setCell p x).ownsRow base 3 1 (.slice (some ⟨g, 0, none⟩) k cap) k xs := by
  obtain ⟨hl, hr⟩ := h
  refine ⟨hl, ?_⟩
  rcases hr with h0 | ⟨g', cap', cur, hv, hbase, hg, h1, h2, h3, h4⟩
  · exact .inl h0
  · cases hv
    exact .inr ⟨g, cap, cur, rfl, hbase, (Below.heap_setCell _ _ _ _ hp).trans hg, h1, h2, h3, h4⟩
theorem owns_set3 {w : World} {base g cap k b : Nat} {xs : List Value} (h : w.ownsRow base 3 1 (.slice (some ⟨g, 0, none⟩) k cap) k xs) (hb : ¬ g = b) (y0 y1 y2 : Value) :
    (((w.setCell ⟨b, 0, none⟩ y0).setCell ⟨b, 1, none⟩ y1).setCell ⟨b, 2, none⟩ y2).ownsRow base 3 1 (.slice (some ⟨g, 0, none⟩) k cap) k xs :=
  owns_ne (p := ⟨b, 2, none⟩) (owns_ne (p := ⟨b, 1, none⟩) (owns_ne (p := ⟨b, 0, none⟩) h hb y0) hb y1) hb y2

theorem owns_cell {w : World} {base g cap k : Nat} {zs : List Int} (h : w.ownsRow base 3 1 (.slice (some ⟨g, 0, none⟩) k cap) k (zs.map (Value.int .i64))) {i : Nat} (hi : i < zs.length) : w.cell? ⟨g, i, none⟩ = some (.int .i64 (zs.getD i 0)) := by
  have h1 := h.cells (g := g) rfl i (.int .i64 (zs.getD i 0)) (by simp [List.getD, hi])
  have ea : ((⟨g, 0, none⟩ : Addr).add i) = ⟨g, i, none⟩ := by unfold Addr.add; split <;> simp_all
  rwa [ea] at h1


theorem l4_alloc {w : World} {b0 b1 g i : Nat} {x0 x1 x2 x3 : Value} (h0 : w.cell? ⟨b0, 0, none⟩ = some x0) (h1 : w.cell? ⟨b1, 1, none⟩ = some x1) (h2 : w.cell? ⟨b1, 2, none⟩ = some x2) (h3 : w.cell? ⟨g, i, none⟩ = some x3) (o : Obj) :
    (w.alloc o).drew.cell? ⟨b0, 0, none⟩ = some x0 ∧ (w.alloc o).drew.cell? ⟨b1, 1, none⟩ = some x1 ∧ (w.alloc o).drew.cell? ⟨b1, 2, none⟩ = some x2 ∧ (w.alloc o).drew.cell? ⟨g, i, none⟩ = some x3 := by
  have hb : Below w.heap.size w (w.alloc o) := (Below.refl _ _).alloc (Nat.le_refl _) _
  exact ⟨(hb.cell (lt_of_cell h0)).trans h0, (hb.cell (lt_of_cell h1)).trans h1, (hb.cell (lt_of_cell h2)).trans h2, (hb.cell (lt_of_cell h3)).trans h3⟩

/-- What Longer hands back of a finite curve: as many values as are asked, in memory of the call's own. -/
def GivesLong (f : Nat → Int) (m : Nat) (p' : Nat) (inc' : Int) (w : World) (e : Ending) (w' : World) : Prop :=
  ∃ a cap, e = .returned (curV a m cap (p' : Nat) inc') ∧ Below w.heap.size w w' ∧ RowZ w' a m cap (firsts f m) ∧ ∀ x, a = some x → w.heap.size ≤ x.block

theorem newsOf {W w' : World} {x : Addr} {n cap N b : Nat} {zs : List Int} {x0 x1 x2 : Value} (hr : RowZ W (some x) n cap zs) (hW : W.heap.size = N) (hk : Kept3 b N W x0 x1 x2 w') : ∀ j u, (zs.map (Value.int .i64))[j]? = some u → w'.cell? (x.add j) = some u := by
  intro j u hj
  rw [List.getElem?_map, Option.map_eq_some_iff] at hj
  obtain ⟨z, hz, rfl⟩ := hj
  have hjn : j < zs.length := (List.getElem?_eq_some_iff.1 hz).1
  obtain ⟨x', hx, hc⟩ := hr.cell j (by rw [hr.len] at hjn; exact hjn)
  obtain rfl : x = x' := Option.some.inj hx
  rw [show zs.getD j 0 = z by simp [List.getD, hz]] at hc
  exact (hk.2.2.2.out.cell (by rw [← hW]; exact lt_of_cell hc)).trans hc
theorem one_ints (zs : List Int) : ∀ u ∈ zs.map (Value.int .i64), u.oneCell' = true := by
  intro u hu; simp at hu; obtain ⟨z, _, rfl⟩ := hu; rfl
theorem baseOf {W w' : World} {N b : Nat} {x0 x1 x2 : Value} (hW : W.heap.size = N) (hk : Kept3 b N W x0 x1 x2 w') : N ≤ w'.heap.size := by rw [← hW]; exact hk.2.2.2.out.size

theorem RowZ.drew {w : World} {a : Option Addr} {n cap : Nat} {zs : List Int} (h : RowZ w a n cap zs) : RowZ w.drew a n cap zs := ⟨h.len, h.le, h.sm, h.cm, h.cell, h.bd⟩

theorem long_post {w w5 : World} {F : Nat → Int} {Gb g m cap' p' : Nat} {inc' : Int} (hb : Below w.heap.size w w5) (ho : w5.ownsRow (w.heap.size + 1 + 1) 3 1 (.slice (some ⟨g, 0, none⟩) m cap') m ((firsts F m).map (Value.int .i64))) (hm : m ≤ 140737488355328)
    (hG : w.heap.size ≤ Gb) (hgG : ¬ g = Gb) (hz : ∀ i, i < (firsts F m).length → In64 ((firsts F m).getD i 0)) (_h0 : 0 ≤ m) :
    GivesLong F m p' inc' w (.returned (curV (some ⟨g, 0, none⟩) m cap' p' inc')) (((((w5.setCell ⟨Gb, 1, none⟩ (.int .i64 p')).setCell ⟨Gb, 2, none⟩ (.int .i64 inc')).setCell ⟨w.heap.size + 1, 0, none⟩ (.slice (some ⟨g, 0, none⟩) m cap')).setCell ⟨w.heap.size + 1, 1, none⟩ (.int .i64 p')).setCell ⟨w.heap.size + 1, 2, none⟩ (.int .i64 inc')).drew := by
  have hg : w.heap.size + 1 + 1 ≤ g := (ho.lt g rfl).1
  have h1 := owns_ne (p := ⟨Gb, 2, none⟩) (owns_ne (p := ⟨Gb, 1, none⟩) ho hgG (.int .i64 p')) hgG (.int .i64 inc')
  have h2 := owns_set3 (b := w.heap.size + 1) h1 (by omega) (.slice (some ⟨g, 0, none⟩) m cap') (.int .i64 p') (.int .i64 inc')
  obtain ⟨a, c, he, hr, hx⟩ := rowZ_of_owns h2 hm hz
  obtain ⟨rfl, rfl⟩ : some ⟨g, 0, none⟩ = a ∧ cap' = c := by cases he; exact ⟨rfl, rfl⟩
  refine ⟨_, _, rfl, ?_, hr.drew, fun y hy => by have := hx y hy; omega⟩
  exact (below_set3 (b := w.heap.size + 1) ((hb.setCell (p := ⟨Gb, 1, none⟩) hG _).setCell (p := ⟨Gb, 2, none⟩) hG _) (Nat.le_succ _) _ _ _).drew

set_option maxRecDepth 100000 in
set_option maxHeartbeats 3200000 in
theorem longer_fin (a : Option Addr) (n cap : Nat) (zs : List Int) (p : Nat) (inc : Int) (g : Good zs p inc) (hf : ¬ zs.getD (zs.length - 1) 0 = infV) (more times K : Nat) (hK : more + (times - 1) * p = K) (ht : 1 ≤ times) (ht2 : times ≤ 1000) (hm : more ≤ 1000) (hKn : n + K ≤ 400) (w : World) (h : RowZ w a n cap zs) :
    Calls Try.prog 71 #[curV a n cap p inc, .int .i64 more, .int .i64 times] w (GivesLong (atC zs p inc) (n + K) (p * times) (inc * times) w) := by
  obtain ⟨i0, hi, hz0, hz1, hz2⟩ := info_parts info_int
  have hB : Below w.heap.size w ((w.alloc (.cells #[.slice a n cap, .int .i64 p, .int .i64 inc] 26)).alloc (.cells #[.slice none 0 0, .int .i64 0, .int .i64 0] 26)) :=
    ((Below.refl _ _).alloc (Nat.le_refl _) _).alloc (by simp) _
  have HB := Lib.hid hB
  have H := Lib.hid (h.under hB)
  have hlen := h.len
  have hp1 := g.p1
  have hp2 := g.p2
  have hp3 := g.p3
  have hi0' := g.i0
  have hi1' := g.i1
  have HL := Lib.hid hlen
  have G := Lib.hid g
  have HF := Lib.hid hf
  obtain ⟨x, rfl, _⟩ := h.cell 0 (by omega)
  have hn1 : 1 ≤ n := by omega
  have hpn : p ≤ n := by omega
  have HK := Lib.hid hK
  obtain ⟨F, hFe⟩ : ∃ F, atC zs p inc = F := ⟨_, rfl⟩
  rw [hFe]
  have HFE := Lib.hid hFe
  clear hFe
  have KF := Lib.hid ((Cur3.new w (.slice (some x) n cap) (.int .i64 p) (.int .i64 inc) 26).alloc (.cells #[.slice none 0 0, .int .i64 0, .int .i64 0] 26))
  have KR := Lib.hid (Cur3.new2 w (.slice none 0 0) (.int .i64 0) (.int .i64 0) 26 (.cells #[.slice (some x) n cap, .int .i64 p, .int .i64 inc] 26))
  have hsz : ((w.alloc (.cells #[.slice (some x) n cap, .int .i64 p, .int .i64 inc] 26)).alloc (.cells #[.slice none 0 0, .int .i64 0, .int .i64 0] 26)).heap.size = w.heap.size + 1 + 1 := by simp
  have HSZ := Lib.hid hsz
  clear h hB hlen g hf hK hp3 hsz
  go_enter Try.func71, Try.ntmps71
  go_wp2_with fail
  generalize (w.alloc (.cells #[.slice (some x) n cap, .int .i64 p, .int .i64 inc] 26)).alloc (.cells #[.slice none 0 0, .int .i64 0, .int .i64 0] 26) = W at HB H KF KR HSZ ⊢
  obtain ⟨c0, c1, c2, f0, f1, f2⟩ := KF.out
  have hNW : w.heap.size + 1 + 1 ≤ W.heap.size := Nat.le_of_eq HSZ.out.symm
  have hN0 := Lib.hid hNW
  have hN1' := Lib.hid (Nat.le_succ_of_le hNW)
  have hN01 := Lib.hid (show w.heap.size + 1 + 1 ≤ (W.alloc (.cells #[] 3)).heap.size by simp; omega)
  have hbN : w.heap.size < w.heap.size + 1 + 1 := by omega
  have HK0 := Lib.hid (kept_drew (b := w.heap.size) (N := w.heap.size + 1 + 1) (W := W) ⟨c0, c1, c2, Below.refl _ _⟩)
  have HkD := Lib.hid (fun u (h : Kept3 w.heap.size (w.heap.size + 1 + 1) W (.slice (some x) n cap) (.int .i64 p) (.int .i64 inc) u) => kept_drew h)
  have HkA := Lib.hid (fun u o (h : Kept3 w.heap.size (w.heap.size + 1 + 1) W (.slice (some x) n cap) (.int .i64 p) (.int .i64 inc) u) => kept_alloc hbN hNW h o)
  have HkAD := Lib.hid (fun (u : World) o (h : Kept3 w.heap.size (w.heap.size + 1 + 1) W (.slice (some x) n cap) (.int .i64 p) (.int .i64 inc) u.drew) => kept_allocD hbN hNW h o)
  have HkG := Lib.hid (fun u v (r m c : Nat) (h : Kept3 w.heap.size (w.heap.size + 1 + 1) W (.slice (some x) n cap) (.int .i64 p) (.int .i64 inc) u) (hg : u.grownBy v (Value.slice (some ⟨r, 0, none⟩) m c).ownBlock) (hr : w.heap.size + 1 + 1 ≤ r) => kept_grown hbN hNW h hg (fun j hj => by cases hj; exact hr))
  have Hk3 := Lib.hid (fun u (r : Nat) y0 y1 y2 (h : Kept3 w.heap.size (w.heap.size + 1 + 1) W (.slice (some x) n cap) (.int .i64 p) (.int .i64 inc) u) (hr : w.heap.size + 1 + 1 ≤ r) => kept_set hbN (kept_set hbN (kept_set (p := ⟨r, 0, none⟩) hbN h hr y0) (p := ⟨r, 1, none⟩) hr y1) (p := ⟨r, 2, none⟩) hr y2)
  have HkS := Lib.hid (fun (u : World) o o' (h : Kept3 w.heap.size (w.heap.size + 1 + 1) W (.slice (some x) n cap) (.int .i64 p) (.int .i64 inc) (u.alloc o)) hu => kept_swap hbN h o' hu)
  have HkSD := Lib.hid (fun (u : World) o o' (h : Kept3 w.heap.size (w.heap.size + 1 + 1) W (.slice (some x) n cap) (.int .i64 p) (.int .i64 inc) (u.alloc o).drew) hu => kept_swapD hbN h o' hu)
  have hO1 := Lib.hid (show (W.alloc (.cells #[] 3)).drew.ownsRow (w.heap.size + 1 + 1) 3 1 (.slice (some ⟨W.heap.size, 0, none⟩) 0 0) 0 [] from World.ownsRow_made W #[] 0 hNW (Nat.zero_le _) rfl)
  have hO2 := Lib.hid (show ∀ o, ((W.alloc (.cells #[] 3)).alloc o).drew.ownsRow (w.heap.size + 1 + 1) 3 1 (.slice (some ⟨W.heap.size, 0, none⟩) 0 0) 0 [] from fun o => (World.ownsRow_made (e := 3) (size := 1) W #[] 0 hNW (Nat.zero_le _) rfl).alloc o)
  have hO3 := Lib.hid (show ∀ o, ((W.alloc o).alloc (.cells #[] 3)).drew.ownsRow (w.heap.size + 1 + 1) 3 1 (.slice (some ⟨W.heap.size + 1, 0, none⟩) 0 0) 0 [] from fun o => by
    have := World.ownsRow_made (e := 3) (size := 1) (W.alloc o) #[] 0 (show w.heap.size + 1 + 1 ≤ (W.alloc o).heap.size by simp; omega) (Nat.zero_le _) rfl
    rw [show (W.alloc o).heap.size = W.heap.size + 1 by simp] at this
    exact this)
  clear hNW
  go_cut [7] (fun s7 wx => ∃ Gb g cap', s7 = .pointer (some ⟨Gb, 0, none⟩) ∧ w.heap.size + 1 < Gb ∧ ¬ g = Gb ∧ Hid (Cur3 wx Gb (.slice (some ⟨g, 0, none⟩) n cap') (.int .i64 p) (.int .i64 inc)) ∧
    Hid (wx.ownsRow (w.heap.size + 1 + 1) 3 1 (.slice (some ⟨g, 0, none⟩) n cap') n (zs.map (Value.int .i64))) ∧ Hid (Below (w.heap.size + 1 + 1) W wx))
  case first =>
    go_region_held3 (fun w' => w'.cell? ⟨w.heap.size, 0, none⟩ = some (.slice (some x) n cap) ∧ w'.cell? ⟨w.heap.size, 1, none⟩ = some (.int .i64 p) ∧ w'.cell? ⟨w.heap.size, 2, none⟩ = some (.int .i64 inc) ∧ Hid (Below (w.heap.size + 1 + 1) W w'))
      (first | with_reducible exact HK0.out | with_reducible exact HkD.out _ (by assumption) | with_reducible exact HkA.out _ _ (by assumption) | with_reducible exact HkAD.out _ _ (by assumption) | with_reducible exact HkG.out _ _ _ _ _ (by assumption) hgrow hN0.out | with_reducible exact HkG.out _ _ _ _ _ (by assumption) hgrow hN1'.out | with_reducible exact Hk3.out _ _ _ _ _ (by assumption) hN0.out | with_reducible exact Hk3.out _ _ _ _ _ (by assumption) hN1'.out | with_reducible exact HkS.out _ _ _ (by assumption) (hgsz.out) | with_reducible exact HkSD.out _ _ _ (by assumption) hN0.out | with_reducible exact HkSD.out _ _ _ (by assumption) hN01.out)
      ((refine step_append_lies _ (by rfl) _ _ _ (by rfl) (w.heap.size + 1 + 1) 3 i0 _ 1 8 Try.underlying22 hi hz0 hz1 hz2 rfl (by decide) _ 0 [] (by rfl) (by first | exact hO1.out | exact hO2.out _ | exact hO3.out _) x n cap (zs.map (Value.int .i64)) (by rfl) (by rw [List.length_map, Nat.mul_one]; exact HL.out) (newsOf H.out HSZ.out (by assumption)) (one_ints zs) (by omega) (by unfold maxLen; omega) (by omega) (baseOf HSZ.out (by assumption)) _ rfl ?_; intro g cap' w1 hown1 hgrow hat hlt; obtain ⟨hgc, hgf⟩ := grownRules hgrow; have hat2 := Lib.hid (hatOf hat); have hgsz := Lib.hid (Nat.le_trans (baseOf HSZ.out (by assumption)) hgrow.size)))
    all_goals go_wp2_with fail
    all_goals go_meet
    all_goals (try simp only [Nat.zero_add, List.nil_append] at hown1)
    all_goals first
      | exact ⟨w1.heap.size, g, cap', rfl, by have := hgsz.out; omega, by omega, Cur3.new _ _ _ _ _, hown1.alloc _, kept_out (by assumption)⟩
      | exact ⟨W.heap.size + 1, g, cap', rfl, by have := hN0.out; omega, by have := hat2.out; simp at this; omega, (Cur3.grownS (Cur3.drewL (Cur3.new2 W _ _ _ _ _)) hgrow (by omega)).set _ _ _, owns_set3 hown1 (by have := hat2.out; simp at this; omega) _ _ _, kept_out (by assumption)⟩
      | exact ⟨W.heap.size, g, cap', rfl, by have := hN0.out; omega, by have := hat2.out; simp at this; omega, (Cur3.grownS (Cur3.drewL ((Cur3.new W _ _ _ _).alloc _)) hgrow (by omega)).set _ _ _, owns_set3 hown1 (by have := hat2.out; simp at this; omega) _ _ _, kept_out (by assumption)⟩
  case rest =>
    obtain ⟨Gb, g0, cap0, rfl, hGb, hg0, KG0, HO0, HB0⟩ := hcut
    obtain ⟨w0, rfl⟩ : ∃ u : World, u = wc := ⟨_, rfl⟩
    have HBW : Hid (Below W.heap.size W w0) := Lib.hid (by rw [HSZ.out]; exact HB0.out)
    have hFe := HFE.out
    have HPer : Hid (Per F (n - p) p inc) := Lib.hid (by rw [← hFe]; have := G.out.per HF.out; rwa [HL.out] at this)
    have HBD : Hid (∀ t : Nat, 0 ≤ F t ∧ F t ≤ 1073741824 * ((t : Int) + 1)) := Lib.hid (by rw [← hFe]; exact G.out.bd HF.out)
    have HFZ : Hid (firsts F n = zs) := Lib.hid (by rw [← hFe, ← HL.out]; exact firsts_atC zs p inc)
    clear hFe
    obtain ⟨j, hj⟩ : ∃ j, n = j + 1 := ⟨n - 1, by omega⟩
    obtain ⟨x', hx, cl⟩ := (H.out.under HBW.out).cell j (by omega)
    obtain rfl : x = x' := Option.some.inj hx
    obtain ⟨l, hl⟩ : ∃ l, zs.getD j 0 = l := ⟨_, rfl⟩
    rw [hl] at cl
    have hln : (l == 4611686018427387904) = false := by
      have := HF.out
      rw [HL.out, show n - 1 = j by omega, hl] at this
      simpa using this
    have hn0 : ((n : Int) == 0) = false := by simp; omega
    have qb1 : decide (n < p) = false := by simp; omega
    have qb2 : decide ((p : Int) < 1) = false := by simp; omega
    have q1 : (n : Int) - 1 = (j : Int) := by omega
    have q2 : (j : Int) < (n : Int) := by omega
    obtain ⟨t1, ht1⟩ : ∃ t1, times = t1 + 1 := ⟨times - 1, by omega⟩
    obtain ⟨M, hM⟩ : ∃ M, t1 * p = M := ⟨_, rfl⟩
    have hMK : more + M = K := by rw [← HK.out, ← hM, ht1]; rfl
    have q3 : (times : Int) - 1 = (t1 : Int) := by omega
    have hMb : M ≤ 400 := by omega
    have q4 : IntKind.i64.wrap ((t1 : Int) * (p : Int)) = (M : Int) := by
      rw [show (t1 : Int) * (p : Int) = (M : Int) by rw [← hM]; simp]
      exact IntWalk.i64_in _ ⟨by omega, by omega⟩
    have q5 : (more : Int) + (M : Int) = (K : Int) := by omega
    have HJ := Lib.hid (And.intro hj (And.intro hl (And.intro ht1 hM)))
    clear hj hl ht1 hM hx hMK
    have KF0 := Lib.hid (KF.out.below HBW.out)
    have KR0 := Lib.hid (KR.out.below HBW.out)
    clear c0 c1 c2 f0 f1 f2
    obtain ⟨c0, c1, c2, f0, f1, f2⟩ := KF0.out
    go_wp2_with fail
    clear c0 c1 c2 f0 f1 f2 cl hln hn0 q1 q2 q3 q4 q5
    go_loopw [8] (fun s8 wx => ∃ q m g cap' : Nat, s8 = .int .i64 q ∧ m + q = n + K ∧ n ≤ m ∧ Hid (¬ g = Gb) ∧ Hid (Cur3 wx Gb (.slice (some ⟨g, 0, none⟩) m cap') (.int .i64 p) (.int .i64 inc)) ∧
      Hid (wx.ownsRow (w.heap.size + 1 + 1) 3 1 (.slice (some ⟨g, 0, none⟩) m cap') m ((firsts F m).map (Value.int .i64))) ∧ Hid (Below (w.heap.size + 1 + 1) W wx)) (fun s8 _ => (intOf s8).toNat)
    case atStart => exact ⟨K, n, g0, cap0, rfl, rfl, Nat.le_refl _, hg0, KG0, by rw [HFZ.out]; exact HO0, HB0⟩
    case round =>
      obtain ⟨q, m, g, cap', rfl, hmq, hnm, hgG, KG, HO, HBx⟩ := hrel
      obtain ⟨w5, rfl⟩ : ∃ u : World, u = wr := ⟨_, rfl⟩
      have HBX : Hid (Below W.heap.size W w5) := Lib.hid (by rw [HSZ.out]; exact HBx.out)
      have KF5 := Lib.hid (KF.out.below HBX.out)
      have KR5 := Lib.hid (KR.out.below HBX.out)
      by_cases hq : q = 0
      · subst hq
        obtain rfl : m = n + K := by omega
        obtain ⟨PT, hPT⟩ : ∃ PT, p * times = PT := ⟨_, rfl⟩
        obtain ⟨IT, hIT⟩ : ∃ IT, inc * (times : Int) = IT := ⟨_, rfl⟩
        have hPTb : PT ≤ 120 * 1000 := by rw [← hPT]; exact Nat.mul_le_mul hp2 ht2
        have hITb : 0 ≤ IT ∧ IT ≤ 1073741824 * 1000 := by rw [← hIT]; exact ⟨Int.mul_nonneg hi0' (by omega), Int.mul_le_mul hi1' (by omega) (by omega) (by omega)⟩
        have r1 : IntKind.i64.wrap ((p : Int) * (times : Int)) = (PT : Int) := by rw [show (p : Int) * (times : Int) = (PT : Int) by rw [← hPT]; simp]; exact IntWalk.i64_in _ ⟨by omega, by omega⟩
        have r2 : IntKind.i64.wrap (inc * (times : Int)) = IT := by rw [hIT]; exact IntWalk.i64_in _ ⟨by omega, by omega⟩
        have HPI := Lib.hid (And.intro hPT hIT)
        clear hPT hIT hPTb hITb
        obtain ⟨c0, c1, c2, f0, f1, f2⟩ := KF5.out
        obtain ⟨d0, d1, d2, e0, e1, e2⟩ := KG.out
        obtain ⟨o0, o1, o2, o3, o4, o5⟩ := KR5.out
        have n1 : ¬ w.heap.size = Gb := by omega
        have n2 : ¬ Gb = w.heap.size := by omega
        have n3 : ¬ w.heap.size + 1 = Gb := by omega
        have n4 : ¬ Gb = w.heap.size + 1 := by omega
        go_wp2_with fail
        go_region
        all_goals go_wp2_with fail
        all_goals
          obtain ⟨o0', o1', o2', o3', o4', o5'⟩ := (KR5.out.other n3 1 (.int .i64 PT)).other n3 2 (.int .i64 IT)
          refine bodyPost_ret (v := curV (some ⟨g, 0, none⟩) (n + K) cap' PT IT) (by simp [results, Try.results71, go_sem, o0', o1', o2']) rfl ?_
          obtain ⟨rfl, rfl⟩ := HPI.out
          exact long_post (HB.out.trans (HBx.out.mono (by omega))) HO.out (by omega) (by omega) hgG.out (fun i hi => by rw [firsts_length] at hi; rw [firsts_getD _ _ _ hi]; have := HBD.out i; exact ⟨by omega, by omega⟩) (by omega)
      · obtain ⟨q', rfl⟩ : ∃ q', q = q' + 1 := ⟨q - 1, by omega⟩
        clear hq
        obtain ⟨i, hi2⟩ : ∃ i, m = i + p := ⟨m - p, by omega⟩
        obtain ⟨u, hu⟩ : ∃ u, F i = u := ⟨_, rfl⟩
        obtain ⟨v, hv⟩ : ∃ v, F m = v := ⟨_, rfl⟩
        have hper := HPer.out i (by omega)
        rw [← hi2, hu, hv] at hper
        have bu := HBD.out i
        have bv := HBD.out m
        rw [hu] at bu
        rw [hv] at bv
        have ci : w5.cell? ⟨g, i, none⟩ = some (.int .i64 u) := by
          have h1 := owns_cell HO.out (i := i) (by rw [firsts_length]; omega)
          rwa [firsts_getD _ _ _ (show i < m by omega), hu] at h1
        have r1 : IntKind.i64.wrap ((m : Int) - (p : Int)) = (i : Int) := by rw [show (m : Int) - (p : Int) = (i : Int) by omega]; exact IntWalk.i64_in _ ⟨by omega, by omega⟩
        have r2 : IntKind.i64.wrap (u + inc) = v := by rw [← hper]; exact IntWalk.i64_in _ ⟨by omega, by omega⟩
        have r3 : (0 : Int) ≤ (i : Int) := by omega
        have r4 : (i : Int) < (m : Int) := by omega
        have HU := Lib.hid (And.intro hi2 (And.intro hu hv))
        clear hi2 hu hv hper bu bv
        obtain ⟨c0, c1, c2, f0, f1, f2⟩ := KF5.out
        obtain ⟨d0, d1, d2, e0, e1, e2⟩ := KG.out
        have hGlt := KG.out.lt
        have hFlt := KF5.out.lt
        have hgn := hgG.out
        have hgn2 : ¬ Gb = g := fun e => hgn e.symm
        go_wp2_with fail
        refine wp_region_keeps (fun w' => w'.cell? ⟨Gb, 0, none⟩ = some (.slice (some ⟨g, 0, none⟩) m cap') ∧ w'.cell? ⟨w.heap.size, 1, none⟩ = some (.int .i64 p) ∧ w'.cell? ⟨w.heap.size, 2, none⟩ = some (.int .i64 inc) ∧ w'.cell? ⟨g, i, none⟩ = some (.int .i64 u)) 16 3 (by kernel_rfl) (by kernel_rfl) ⟨d0, c1, c2, ci⟩ (fun hHeld => ?_)
        refine wpAnyK_take (i := 0) (v := ?_) rfl (by kernel_rfl) (fun _ _ _ h => h) (Or.inl ⟨by rfl, ?_⟩) (by assumption) ?_
        rotate_left
        · (intro w hSw; (try dsimp only at hSw); go_simp; try with_reducible rfl)
        try simp only [Act.put, List.setIfInBounds_toArray, List.set_cons_zero, List.set_cons_succ]
        refine wpAnyK_take (i := 1) (v := ?_) rfl (by kernel_rfl) (fun _ _ _ h => h) (Or.inl ⟨by rfl, ?_⟩) (by assumption) ?_
        rotate_left
        · (intro w hSw; (try dsimp only at hSw); go_simp; try with_reducible rfl)
        try simp only [Act.put, List.setIfInBounds_toArray, List.set_cons_zero, List.set_cons_succ]
        refine wpAnyK_take (i := 2) (v := ?_) rfl (by kernel_rfl) (fun _ _ _ h => h) (Or.inl ⟨by rfl, ?_⟩) (by assumption) ?_
        rotate_left
        · (intro w hSw; (try dsimp only at hSw); go_simp; try with_reducible rfl)
        try simp only [Act.put, List.setIfInBounds_toArray, List.set_cons_zero, List.set_cons_succ]
        refine wpAnyK_take (i := 3) (v := ?_) rfl (by kernel_rfl) (fun _ _ _ h => h) (Or.inl ⟨by rfl, ?_⟩) (by assumption) ?_
        rotate_left
        · (intro w hSw; (try dsimp only at hSw); go_simp; try with_reducible rfl)
        try simp only [Act.put, List.setIfInBounds_toArray, List.set_cons_zero, List.set_cons_succ]
        refine wpAnyK_take (i := 4) (v := ?_) rfl (by kernel_rfl) (fun _ _ _ h => h) (Or.inl ⟨by rfl, ?_⟩) (by assumption) ?_
        rotate_left
        · (intro w hSw; (try dsimp only at hSw); go_simp; try with_reducible rfl)
        try simp only [Act.put, List.setIfInBounds_toArray, List.set_cons_zero, List.set_cons_succ]
        refine wpAnyK_take (i := 5) (v := ?_) rfl (by kernel_rfl) (fun _ _ _ h => h) (Or.inl ⟨by rfl, ?_⟩) (by assumption) ?_
        rotate_left
        · (intro w hSw; (try dsimp only at hSw); go_simp; try with_reducible rfl)
        try simp only [Act.put, List.setIfInBounds_toArray, List.set_cons_zero, List.set_cons_succ]
        refine wpAnyK_take (i := 6) (v := ?_) rfl (by kernel_rfl) (fun _ _ _ h => h) (Or.inl ⟨by rfl, ?_⟩) (by assumption) ?_
        rotate_left
        · (intro w hSw; (try dsimp only at hSw); go_simp; try with_reducible rfl)
        try simp only [Act.put, List.setIfInBounds_toArray, List.set_cons_zero, List.set_cons_succ]
        refine wpAnyK_take (i := 7) (v := ?_) rfl (by kernel_rfl) (fun _ _ _ h => h) (Or.inl ⟨by rfl, ?_⟩) (by assumption) ?_
        rotate_left
        · (intro w hSw; (try dsimp only at hSw); go_simp; try with_reducible rfl)
        try simp only [Act.put, List.setIfInBounds_toArray, List.set_cons_zero, List.set_cons_succ]
        refine wpAnyK_take (i := 8) (v := ?_) rfl (by kernel_rfl) (fun _ _ _ h => h) (Or.inl ⟨by rfl, ?_⟩) (by assumption) ?_
        rotate_left
        · (intro w hSw; (try dsimp only at hSw); go_simp; try with_reducible rfl)
        try simp only [Act.put, List.setIfInBounds_toArray, List.set_cons_zero, List.set_cons_succ]
        refine wpAnyK_take (i := 9) (v := ?_) rfl (by kernel_rfl) (fun _ _ _ h => h) (Or.inl ⟨by rfl, ?_⟩) (by assumption) ?_
        rotate_left
        · (intro w hSw; (try dsimp only at hSw); go_simp; try with_reducible rfl)
        try simp only [Act.put, List.setIfInBounds_toArray, List.set_cons_zero, List.set_cons_succ]
        refine wpAnyK_take (i := 10) (v := ?_) rfl (by kernel_rfl) (fun _ _ _ h => h) (Or.inl ⟨by rfl, ?_⟩) (by assumption) ?_
        rotate_left
        · (intro w hSw; (try dsimp only at hSw); go_simp; try with_reducible rfl)
        try simp only [Act.put, List.setIfInBounds_toArray, List.set_cons_zero, List.set_cons_succ]
        refine wpAnyK_take (i := 11) (v := ?_) rfl (by kernel_rfl) (fun _ _ _ h => h) (Or.inl ⟨by rfl, ?_⟩) (by assumption) ?_
        rotate_left
        · (intro w hSw; (try dsimp only at hSw); go_simp; try with_reducible rfl)
        try simp only [Act.put, List.setIfInBounds_toArray, List.set_cons_zero, List.set_cons_succ]
        refine wpAnyK_take (i := 12) (v := ?_) rfl (by kernel_rfl) (fun _ _ _ h => h) (Or.inl ⟨by rfl, ?_⟩) (by assumption) ?_
        rotate_left
        · (intro w hSw; (try dsimp only at hSw); go_simp; try with_reducible rfl)
        try simp only [Act.put, List.setIfInBounds_toArray, List.set_cons_zero, List.set_cons_succ]
        refine wpAnyK_take (i := 13) (v := ?_) rfl (by kernel_rfl) (fun _ _ _ h => h) (Or.inl ⟨by rfl, ?_⟩) (by assumption) ?_
        rotate_left
        · (intro w hSw; (try dsimp only at hSw); go_simp; try with_reducible rfl)
        try simp only [Act.put, List.setIfInBounds_toArray, List.set_cons_zero, List.set_cons_succ]
        refine wpAnyK_take (i := 14) (v := ?_) rfl (by kernel_rfl) (fun _ _ _ h => h) (Or.inl ⟨by rfl, ?_⟩) (by assumption) ?_
        rotate_left
        · (intro w hSw; (try dsimp only at hSw); go_simp; try with_reducible rfl)
        try simp only [Act.put, List.setIfInBounds_toArray, List.set_cons_zero, List.set_cons_succ]
        refine wpAnyK_step (i := 15) rfl (by kernel_rfl) (fun K hK => ?_)
        go_simp
        refine hK.out _ _ (l4_alloc d0 c1 c2 ci _) (fun hHeld2 => ?_)
        clear hK K hHeld
        refine wpAnyK_done (by kernel_rfl) ?_
        simp only [List.drop_succ_cons, List.drop_zero]
        have HO6 : Hid ((w5.alloc (.cells #[.int .i64 v] 3)).drew.ownsRow (w.heap.size + 1 + 1) 3 1 (.slice (some ⟨g, 0, none⟩) m cap') m ((firsts F m).map (Value.int .i64))) := Lib.hid (HO.out.alloc _)
        have HN6 : Hid (∀ j u, [Value.int .i64 v][j]? = some u → (w5.alloc (.cells #[.int .i64 v] 3)).drew.cell? ((⟨w5.heap.size, 0, none⟩ : Addr).add j) = some u) := Lib.hid (World.news_of_block (cs := #[.int .i64 v]) (t := 3) (fr := (0, 0)) (heap_alloc_new w5 _))
        have KG6 := Lib.hid (KG.out.alloc (.cells #[.int .i64 v] 3)).drewL
        have HB6 := Lib.hid (HBx.out.alloc (by have := HBx.out.size; have := HSZ.out; omega) (.cells #[.int .i64 v] 3)).drew
        have hz6 : (w5.alloc (.cells #[.int .i64 v] 3)).drew.heap.size = w5.heap.size + 1 := by show (w5.heap.push _).size = _; simp
        generalize (w5.alloc (.cells #[.int .i64 v] 3)).drew = w6 at HO6 HN6 KG6 HB6 hz6 ⊢
        have HZ6 := Lib.hid hz6
        have HH6 := hHeld2
        clear c0 c1 c2 f0 f1 f2 d0 d1 d2 e0 e1 e2 ci hz6 hHeld2 HH6
        go_wp2_with (at_builtin; refine wpList_append_lies _ rfl _ _ 22 rfl (w.heap.size + 1 + 1) 3 i0 (.int .i64 0) 1 8 Try.underlying22 hi hz0 hz1 hz2 rfl (by decide) (.slice (some ⟨g, 0, none⟩) m cap') m ((firsts F m).map (Value.int .i64)) rfl HO6.out ⟨w5.heap.size, 0, none⟩ 1 1 [.int .i64 v] rfl rfl HN6.out ?l2 (by omega) ?l3 ?l4 ?l5 _ rfl ?_)
        case l2 => intro u hu; simp at hu; subst hu; rfl
        case l3 => unfold maxLen; omega
        case l4 => omega
        case l5 => have h1 := HB6.out.size; have h2 := HSZ.out; omega
        intro g2 cap2 w1 hown1 hgrow hat hlt
        have hat2 := hatOf hat
        have hg2 : ¬ g2 = Gb := by
          have hz := HZ6.out
          rcases hat2 with h | h
          · rw [h]; exact hgn
          · intro hx; rw [hx] at h; omega
        have KG7 := Lib.hid (KG6.out.grownS hgrow hgn)
        have HO7 := Lib.hid hown1
        have HB7 : Hid (Below (w.heap.size + 1 + 1) W w1) := Lib.hid (HB6.out.grown hgrow (by have := HB6.out.size; have := HSZ.out; omega) (fun j hj => by cases hj; exact (HO.out.lt g rfl).1))
        clear hown1 hgrow hat hat2 hlt
        obtain ⟨d0, d1, d2, e0, e1, e2⟩ := KG7.out
        go_wp2_with fail
        go_roundw
        case rel =>
          refine ⟨q', m + 1, g2, cap2, by go_num, by omega, by omega, hg2, ?_, ?_, ?_⟩
          · exact Lib.hid (KG7.out.set0 _)
          · have e : (firsts F (m + 1)).map (Value.int .i64) = (firsts F m).map (Value.int .i64) ++ [.int .i64 v] := by rw [firsts_succ, List.map_append, HU.out.2.2]; rfl
            rw [e]
            exact Lib.hid (owns_ne (p := ⟨Gb, 0, none⟩) HO7.out hg2 _)
          · exact Lib.hid (HB7.out.setCell (p := ⟨Gb, 0, none⟩) (by show w.heap.size + 1 + 1 ≤ Gb; omega) _)
        case measure => simp [intOf]

theorem longer_i (a : Option Addr) (n cap : Nat) (zs : List Int) (p : Nat) (inc : Int) (g : Good zs p inc) (hf : ¬ zs.getD (zs.length - 1) 0 = infV) (mi ti : Int) (more times K : Nat) (hmi : mi = more) (hti : ti = times) (hK : more + (times - 1) * p = K) (ht : 1 ≤ times) (ht2 : times ≤ 1000) (hm : more ≤ 1000) (hKn : n + K ≤ 400) (w : World) (h : RowZ w a n cap zs) :
    Calls Try.prog 71 #[curV a n cap p inc, .int .i64 mi, .int .i64 ti] w (GivesLong (atC zs p inc) (n + K) (p * times) (inc * times) w) := by
  subst hmi hti; exact longer_fin a n cap zs p inc g hf more times K hK ht ht2 hm hKn w h

end Go.Proofs.Ytknimlpdpgpliaa
