/- Contract of keep.Longer. By the verifier's side. -/
import Derived.Test.YtkienpbmoilheaaGreatACurFCurGCurTNum
import Derived.Test.YtkienpbmoilheaaGreatACurMToDecM
import Derived.Test.YtkienpbmoilheaaGreatABaseApartPickKeepS
import Derived.Deep.AppendLies
import Derived.Deep.RegionHeld3
import Derived.StillTailTactics
import Derived.RegionTactic
import Derived.Deep.DeepCutAuto
import Derived.Test.YtkienpbmoilheaaGreatACurAGrow
import Derived.Deep.RegionWith
import Derived.Shelf.Abstract
import Derived.Deep.OwnRows
namespace Go.Proofs.YtkienpbmoilheaaGreat
open Go.RowKit
set_option linter.unusedSimpArgs false

/-- Block b's three cells, and that all below N is as in W. -/
abbrev Kept3 (b N : Nat) (W : World) (x0 x1 x2 : Value) (w' : World) : Prop :=
  w'.cell? ⟨b, 0, none⟩ = some x0 ∧ w'.cell? ⟨b, 1, none⟩ = some x1 ∧ w'.cell? ⟨b, 2, none⟩ = some x2 ∧ Hid (Below N W w')

theorem kept_below {b N : Nat} {W w w' : World} {x0 x1 x2 : Value} (hN : b < N) (h : Kept3 b N W x0 x1 x2 w) (hb : Below N w w') : Kept3 b N W x0 x1 x2 w' :=
  ⟨(hb.cell (p := ⟨b, 0, none⟩) hN).trans h.1, (hb.cell (p := ⟨b, 1, none⟩) hN).trans h.2.1, (hb.cell (p := ⟨b, 2, none⟩) hN).trans h.2.2.1, h.2.2.2.out.trans hb⟩
theorem kept_drew {b N : Nat} {W w : World} {x0 x1 x2 : Value} (h : Kept3 b N W x0 x1 x2 w) : Kept3 b N W x0 x1 x2 w.drew := ⟨h.1, h.2.1, h.2.2.1, h.2.2.2.out.drew⟩
theorem kept_alloc {b N : Nat} {W w : World} {x0 x1 x2 : Value} (hN : b < N) (hW : N ≤ W.heap.size) (h : Kept3 b N W x0 x1 x2 w) (o : Obj) : Kept3 b N W x0 x1 x2 (w.alloc o) :=
  kept_below hN h ((Below.refl _ _).alloc (Nat.le_trans hW h.2.2.2.out.size) o)
theorem kept_set {b N : Nat} {W w : World} {x0 x1 x2 : Value} (hN : b < N) (h : Kept3 b N W x0 x1 x2 w) {p : Addr} (hp : N ≤ p.block) (v : Value) : Kept3 b N W x0 x1 x2 (w.setCell p v) :=
  kept_below hN h ((Below.refl _ _).setCell hp v)
theorem kept_grown {b N : Nat} {W w w' : World} {x0 x1 x2 : Value} (hN : b < N) (hW : N ≤ W.heap.size) (h : Kept3 b N W x0 x1 x2 w) {row : Option Nat} (hg : w.grownBy w' row) (hr : ∀ j, row = some j → N ≤ j) : Kept3 b N W x0 x1 x2 w' :=
  kept_below hN h ((Below.refl _ _).grown hg (Nat.le_trans hW h.2.2.2.out.size) hr)

theorem kept_swap {b N : Nat} {W u : World} {x0 x1 x2 : Value} {o : Obj} (hN : b < N) (h : Kept3 b N W x0 x1 x2 (u.alloc o)) (o' : Obj) (hu : N ≤ u.heap.size) : Kept3 b N W x0 x1 x2 (u.alloc o') := by
  have e : ∀ k, k < N → (u.alloc o').heap[k]? = (u.alloc o).heap[k]? := fun k hk => by
    have h1 := ((Below.refl u.heap.size u).alloc (Nat.le_refl _) o).block k (by omega)
    have h2 := ((Below.refl u.heap.size u).alloc (Nat.le_refl _) o').block k (by omega)
    exact h2.trans h1.symm
  obtain ⟨h1, h2, h3, h4⟩ := h
  refine ⟨(World.cell?_of_block (w := u.alloc o) (a := ⟨b, 0, none⟩) (e b hN)).trans h1, (World.cell?_of_block (w := u.alloc o) (a := ⟨b, 1, none⟩) (e b hN)).trans h2, (World.cell?_of_block (w := u.alloc o) (a := ⟨b, 2, none⟩) (e b hN)).trans h3, ?_⟩
  have h5 := h4.out
  exact Lib.hid ⟨h5.os, h5.tape, h5.output, by have := h5.size; simp at this ⊢; exact this, fun k hk => (e k hk).trans (h5.block k hk)⟩

theorem kept_allocD {b N : Nat} {W w : World} {x0 x1 x2 : Value} (hN : b < N) (hW : N ≤ W.heap.size) (h : Kept3 b N W x0 x1 x2 w.drew) (o : Obj) : Kept3 b N W x0 x1 x2 (w.alloc o).drew := kept_alloc (w := w.drew) hN hW h o
theorem kept_swapD {b N : Nat} {W u : World} {x0 x1 x2 : Value} {o : Obj} (hN : b < N) (h : Kept3 b N W x0 x1 x2 (u.alloc o).drew) (o' : Obj) (hu : N ≤ u.heap.size) : Kept3 b N W x0 x1 x2 (u.alloc o').drew := kept_swap (u := u.drew) hN h o' hu

theorem grownRules {w w' : World} {g m c : Nat} (h : w.grownBy w' (Value.slice (some ⟨g, 0, none⟩) m c).ownBlock) :
    (∀ b o, b < w.heap.size → ¬ b = g → w'.cell? ⟨b, o, none⟩ = w.cell? ⟨b, o, none⟩) ∧ (∀ b o, b < w.heap.size → ¬ b = g → w'.frozen? ⟨b, o, none⟩ = w.frozen? ⟨b, o, none⟩) :=
  ⟨fun b _ hb hg => World.cell?_of_block (w := w) (h.block b hb (fun e => hg (Option.some.inj e))), fun b _ hb hg => World.frozen?_of_block (w := w) (h.block b hb (fun e => hg (Option.some.inj e)))⟩

theorem kept_out {b N : Nat} {W w' : World} {x0 x1 x2 : Value} (h : Kept3 b N W x0 x1 x2 w') : Hid (Below N W w') := h.2.2.2
theorem Cur3.drewL {w : World} {b : Nat} {x0 x1 x2 : Value} (h : Cur3 w b x0 x1 x2) : Cur3 w.drew b x0 x1 x2 := ⟨h.c0, h.c1, h.c2, h.f0, h.f1, h.f2⟩
theorem Cur3.grownN {w w' : World} {b : Nat} {x0 x1 x2 : Value} (h : Cur3 w b x0 x1 x2) {row : Option Nat} (hg : w.grownBy w' row) (hr : ¬ row = some b) : Cur3 w' b x0 x1 x2 := by
  have hb : w'.heap[b]? = w.heap[b]? := hg.block b h.lt (fun e => hr e.symm)
  exact ⟨(World.cell?_of_block (w := w) (a := ⟨b, 0, none⟩) hb).trans h.c0, (World.cell?_of_block (w := w) (a := ⟨b, 1, none⟩) hb).trans h.c1, (World.cell?_of_block (w := w) (a := ⟨b, 2, none⟩) hb).trans h.c2,
    (World.frozen?_of_block (w := w) (a := ⟨b, 0, none⟩) hb).trans h.f0, (World.frozen?_of_block (w := w) (a := ⟨b, 1, none⟩) hb).trans h.f1, (World.frozen?_of_block (w := w) (a := ⟨b, 2, none⟩) hb).trans h.f2⟩
theorem hatOf {g r H m c : Nat} (h : (Value.slice (some ⟨r, 0, none⟩) m c).ownBlock = some g ∨ g = H) : g = r ∨ g = H := h.imp (fun e => (Option.some.inj e).symm) id
theorem Cur3.grownS {w w' : World} {b r m c : Nat} {x0 x1 x2 : Value} (h : Cur3 w b x0 x1 x2) (hg : w.grownBy w' (Value.slice (some ⟨r, 0, none⟩) m c).ownBlock) (hr : ¬ r = b) : Cur3 w' b x0 x1 x2 :=
  h.grownN hg (fun e => hr (Option.some.inj e))
theorem owns_ne {w : World} {base g cap k : Nat} {xs : List Value} (h : w.ownsRow base 3 1 (.slice (some ⟨g, 0, none⟩) k cap) k xs) {p : Addr} (hp : ¬ g = p.block) (x : Value) : (w.setCell p x).ownsRow base 3 1 (.slice (some ⟨g, 0, none⟩) k cap) k xs := by
  obtain ⟨hl, hr⟩ := h
  refine ⟨hl, ?_⟩
  rcases hr with h0 | ⟨g', cap', cur, hv, hbase, hg, h1, h2, h3, h4⟩
  · exact .inl h0
  · cases hv
    exact .inr ⟨g, cap, cur, rfl, hbase, (Below.heap_setCell _ _ _ _ hp).trans hg, h1, h2, h3, h4⟩
theorem owns_set3 {w : World} {base g cap k b : Nat} {xs : List Value} (h : w.ownsRow base 3 1 (.slice (some ⟨g, 0, none⟩) k cap) k xs) (hb : ¬ g = b) (y0 y1 y2 : Value) :
    (((w.setCell ⟨b, 0, none⟩ y0).setCell ⟨b, 1, none⟩ y1).setCell ⟨b, 2, none⟩ y2).ownsRow base 3 1 (.slice (some ⟨g, 0, none⟩) k cap) k xs :=
  owns_ne (p := ⟨b, 2, none⟩) (owns_ne (p := ⟨b, 1, none⟩) (owns_ne (p := ⟨b, 0, none⟩) h hb y0) hb y1) hb y2

theorem owns_cell {w : World} {base g cap k : Nat} {zs : List Int} (h : w.ownsRow base 3 1 (.slice (some ⟨g, 0, none⟩) k cap) k (zs.map (Value.int .i64))) {i : Nat} (hi : i < zs.length) : w.cell? ⟨g, i, none⟩ = some (.int .i64 (zs.getD i 0)) := by
  have h1 := h.cells (g := g) rfl i (.int .i64 (zs.getD i 0)) (by simp [List.getD, hi])
  have ea : ((⟨g, 0, none⟩ : Addr).add i) = ⟨g, i, none⟩ := by unfold Addr.add; split <;> simp_all
  rwa [ea] at h1


theorem l4_alloc {w : World} {b0 b1 g i : Nat} {x0 x1 x2 x3 : Value} (h0 : w.cell? ⟨b0, 0, none⟩ = some x0) (h1 : w.cell? ⟨b1, 1, none⟩ = some x1) (h2 : w.cell? ⟨b1, 2, none⟩ = some x2) (h3 : w.cell? ⟨g, i, none⟩ = some x3) (o : Obj) :
    (w.alloc o).drew.cell? ⟨b0, 0, none⟩ = some x0 ∧ (w.alloc o).drew.cell? ⟨b1, 1, none⟩ = some x1 ∧ (w.alloc o).drew.cell? ⟨b1, 2, none⟩ = some x2 ∧ (w.alloc o).drew.cell? ⟨g, i, none⟩ = some x3 := by
  have hb : Below w.heap.size w (w.alloc o) := (Below.refl _ _).alloc (Nat.le_refl _) _
  exact ⟨(hb.cell (lt_of_cell h0)).trans h0, (hb.cell (lt_of_cell h1)).trans h1, (hb.cell (lt_of_cell h2)).trans h2, (hb.cell (lt_of_cell h3)).trans h3⟩

/-- What Longer hands back of a finite curve: as many values as are asked, in memory of the call's own. -/
def GivesLong (f : Nat → Int) (m : Nat) (p' : Nat) (inc' : Int) (w : World) (e : Ending) (w' : World) : Prop :=
  ∃ a cap, e = .returned (curV a m cap (p' : Nat) inc') ∧ Below w.heap.size w w' ∧ RowZ w' a m cap (firsts f m) ∧ ∀ x, a = some x → w.heap.size ≤ x.block

theorem newsOf {W w' : World} {x : Addr} {n cap N b : Nat} {zs : List Int} {x0 x1 x2 : Value} (hr : RowZ W (some x) n cap zs) (hW : W.heap.size = N) (hk : Kept3 b N W x0 x1 x2 w') : ∀ j u, (zs.map (Value.int .i64))[j]? = some u → w'.cell? (x.add j) = some u := by
  intro j u hj
  rw [List.getElem?_map, Option.map_eq_some_iff] at hj
  obtain ⟨z, hz, rfl⟩ := hj
  have hjn : j < zs.length := (List.getElem?_eq_some_iff.1 hz).1
  obtain ⟨x', hx, hc⟩ := hr.cell j (by rw [hr.len] at hjn; exact hjn)
  obtain rfl : x = x' := Option.some.inj hx
  rw [show zs.getD j 0 = z by simp [List.getD, hz]] at hc
  exact (hk.2.2.2.out.cell (by rw [← hW]; exact lt_of_cell hc)).trans hc
theorem one_ints (zs : List Int) : ∀ u ∈ zs.map (Value.int .i64), u.oneCell' = true := by
  intro u hu; simp at hu; obtain ⟨z, _, rfl⟩ := hu; rfl
theorem baseOf {W w' : World} {N b : Nat} {x0 x1 x2 : Value} (hW : W.heap.size = N) (hk : Kept3 b N W x0 x1 x2 w') : N ≤ w'.heap.size := by rw [← hW]; exact hk.2.2.2.out.size

theorem RowZ.drew {w : World} {a : Option Addr} {n cap : Nat} {zs : List Int} (h : RowZ w a n cap zs) : RowZ w.drew a n cap zs := ⟨h.len, h.le, h.sm, h.cm, h.cell, h.bd⟩

theorem long_post {w w5 : World} {F : Nat → Int} {Gb g m cap' p' : Nat} {inc' : Int} (hb : Below w.heap.size w w5) (ho : w5.ownsRow (w.heap.size + 1 + 1) 3 1 (.slice (some ⟨g, 0, none⟩) m cap') m ((firsts F m).map (Value.int .i64))) (hm : m ≤ 140737488355328)
    (hG : w.heap.size ≤ Gb) (hgG : ¬ g = Gb) (hz : ∀ i, i < (firsts F m).length → In64 ((firsts F m).getD i 0)) (_h0 : 0 ≤ m) :
    GivesLong F m p' inc' w (.returned (curV (some ⟨g, 0, none⟩) m cap' p' inc')) (((((w5.setCell ⟨Gb, 1, none⟩ (.int .i64 p')).setCell ⟨Gb, 2, none⟩ (.int .i64 inc')).setCell ⟨w.heap.size + 1, 0, none⟩ (.slice (some ⟨g, 0, none⟩) m cap')).setCell ⟨w.heap.size + 1, 1, none⟩ (.int .i64 p')).setCell ⟨w.heap.size + 1, 2, none⟩ (.int .i64 inc')).drew := by
  have hg : w.heap.size + 1 + 1 ≤ g := (ho.lt g rfl).1
  have h1 := owns_ne (p := ⟨Gb, 2, none⟩) (owns_ne (p := ⟨Gb, 1, none⟩) ho hgG (.int .i64 p')) hgG (.int .i64 inc')
  have h2 := owns_set3 (b := w.heap.size + 1) h1 (by omega) (.slice (some ⟨g, 0, none⟩) m cap') (.int .i64 p') (.int .i64 inc')
  obtain ⟨a, c, he, hr, hx⟩ := rowZ_of_owns h2 hm hz
  obtain ⟨rfl, rfl⟩ : some ⟨g, 0, none⟩ = a ∧ cap' = c := by cases he; exact ⟨rfl, rfl⟩
  refine ⟨_, _, rfl, ?_, hr.drew, fun y hy => by have := hx y hy; omega⟩
  exact (below_set3 (b := w.heap.size + 1) ((hb.setCell (p := ⟨Gb, 1, none⟩) hG _).setCell (p := ⟨Gb, 2, none⟩) hG _) (Nat.le_succ _) _ _ _).drew

set_option maxRecDepth 100000 in
set_option maxHeartbeats 3200000 in
theorem longer_fin (a : Option Addr) (n cap : Nat) (zs : List Int) (p : Nat) (inc : Int) (g : Good zs p inc) (hf : ¬ zs.getD (zs.length - 1) 0 = infV) (more times K : Nat) (hK : more + (times - 1) * p = K) (ht : 1 ≤ times) (ht2 : times ≤ 1000) (hm : more ≤ 1000) (hKn : n + K ≤ 400) (w : World) (h : RowZ w a n cap zs) :
    Calls Tryz.prog 30 #[curV a n cap p inc, .int .i64 more, .int .i64 times] w (GivesLong (atC zs p inc) (n + K) (p * times) (inc * times) w) := by
  obtain ⟨i0, hi, hz0, hz1, hz2⟩ := info_parts info_int
  have hB : Below w.heap.size w ((w.alloc (.cells #[.slice a n cap, .int .i64 p, .int .i64 inc] 24)).alloc (.cells #[.slice none 0 0, .int .i64 0, .int .i64 0] 24)) :=
    ((Below.refl _ _).alloc (Nat.le_refl _) _).alloc (by simp) _
  have HB := Lib.hid hB
  have H := Lib.hid (h.under hB)
  have hlen := h.len
  have hp1 := g.p1
  have hp2 := g.p2
  have hp3 := g.p3
  have hi0' := g.i0
  have hi1' := g.i1
  have HL := Lib.hid hlen
  have G := Lib.hid g
  have HF := Lib.hid hf
  obtain ⟨x, rfl, _⟩ := h.cell 0 (by omega)
  have hn1 : 1 ≤ n := by omega
  have hpn : p ≤ n := by omega
  have HK := Lib.hid hK
  obtain ⟨F, hFe⟩ : ∃ F, atC zs p inc = F := ⟨_, rfl⟩
  rw [hFe]
  have HFE := Lib.hid hFe
  clear hFe
  have KF := Lib.hid ((Cur3.new w (.slice (some x) n cap) (.int .i64 p) (.int .i64 inc) 24).alloc (.cells #[.slice none 0 0, .int .i64 0, .int .i64 0] 24))
  have KR := Lib.hid (Cur3.new2 w (.slice none 0 0) (.int .i64 0) (.int .i64 0) 24 (.cells #[.slice (some x) n cap, .int .i64 p, .int .i64 inc] 24))
  have hsz : ((w.alloc (.cells #[.slice (some x) n cap, .int .i64 p, .int .i64 inc] 24)).alloc (.cells #[.slice none 0 0, .int .i64 0, .int .i64 0] 24)).heap.size = w.heap.size + 1 + 1 := by simp
  have HSZ := Lib.hid hsz
  clear h hB hlen g hf hK hp3 hsz
  go_enter Tryz.func30, Tryz.ntmps30
  go_wp2_with fail
  generalize (w.alloc (.cells #[.slice (some x) n cap, .int .i64 p, .int .i64 inc] 24)).alloc (.cells #[.slice none 0 0, .int .i64 0, .int .i64 0] 24) = W at HB H KF KR HSZ ⊢
  obtain ⟨c0, c1, c2, f0, f1, f2⟩ := KF.out
  have hNW : w.heap.size + 1 + 1 ≤ W.heap.size := Nat.le_of_eq HSZ.out.symm
  have hN0 := Lib.hid hNW
  have hN1' := Lib.hid (Nat.le_succ_of_le hNW)
  have hN01 := Lib.hid (show w.heap.size + 1 + 1 ≤ (W.alloc (.cells #[] 3)).heap.size by simp; omega)
  have hbN : w.heap.size < w.heap.size + 1 + 1 := by omega
  have HK0 := Lib.hid (kept_drew (b := w.heap.size) (N := w.heap.size + 1 + 1) (W := W) ⟨c0, c1, c2, Below.refl _ _⟩)
  have HkD := Lib.hid (fun u (h : Kept3 w.heap.size (w.heap.size + 1 + 1) W (.slice (some x) n cap) (.int .i64 p) (.int .i64 inc) u) => kept_drew h)
  have HkA := Lib.hid (fun u o (h : Kept3 w.heap.size (w.heap.size + 1 + 1) W (.slice (some x) n cap) (.int .i64 p) (.int .i64 inc) u) => kept_alloc hbN hNW h o)
  have HkAD := Lib.hid (fun (u : World) o (h : Kept3 w.heap.size (w.heap.size + 1 + 1) W (.slice (some x) n cap) (.int .i64 p) (.int .i64 inc) u.drew) => kept_allocD hbN hNW h o)
  have HkG := Lib.hid (fun u v (r m c : Nat) (h : Kept3 w.heap.size (w.heap.size + 1 + 1) W (.slice (some x) n cap) (.int .i64 p) (.int .i64 inc) u) (hg : u.grownBy v (Value.slice (some ⟨r, 0, none⟩) m c).ownBlock) (hr : w.heap.size + 1 + 1 ≤ r) => kept_grown hbN hNW h hg (fun j hj => by cases hj; exact hr))
  have Hk3 := Lib.hid (fun u (r : Nat) y0 y1 y2 (h : Kept3 w.heap.size (w.heap.size + 1 + 1) W (.slice (some x) n cap) (.int .i64 p) (.int .i64 inc) u) (hr : w.heap.size + 1 + 1 ≤ r) => kept_set hbN (kept_set hbN (kept_set (p := ⟨r, 0, none⟩) hbN h hr y0) (p := ⟨r, 1, none⟩) hr y1) (p := ⟨r, 2, none⟩) hr y2)
  have HkS := Lib.hid (fun (u : World) o o' (h : Kept3 w.heap.size (w.heap.size + 1 + 1) W (.slice (some x) n cap) (.int .i64 p) (.int .i64 inc) (u.alloc o)) hu => kept_swap hbN h o' hu)
  have HkSD := Lib.hid (fun (u : World) o o' (h : Kept3 w.heap.size (w.heap.size + 1 + 1) W (.slice (some x) n cap) (.int .i64 p) (.int .i64 inc) (u.alloc o).drew) hu => kept_swapD hbN h o' hu)
  have hO1 := Lib.hid (show (W.alloc (.cells #[] 3)).drew.ownsRow (w.heap.size + 1 + 1) 3 1 (.slice (some ⟨W.heap.size, 0, none⟩) 0 0) 0 [] from World.ownsRow_made W #[] 0 hNW (Nat.zero_le _) rfl)
  have hO2 := Lib.hid (show ∀ o, ((W.alloc (.cells #[] 3)).alloc o).drew.ownsRow (w.heap.size + 1 + 1) 3 1 (.slice (some ⟨W.heap.size, 0, none⟩) 0 0) 0 [] from fun o => (World.ownsRow_made (e := 3) (size := 1) W #[] 0 hNW (Nat.zero_le _) rfl).alloc o)
  have hO3 := Lib.hid (show ∀ o, ((W.alloc o).alloc (.cells #[] 3)).drew.ownsRow (w.heap.size + 1 + 1) 3 1 (.slice (some ⟨W.heap.size + 1, 0, none⟩) 0 0) 0 [] from fun o => by
    have := World.ownsRow_made (e := 3) (size := 1) (W.alloc o) #[] 0 (show w.heap.size + 1 + 1 ≤ (W.alloc o).heap.size by simp; omega) (Nat.zero_le _) rfl
    rw [show (W.alloc o).heap.size = W.heap.size + 1 by simp] at this
    exact this)
  clear hNW
  go_cut [7] (fun s7 wx => ∃ Gb g cap', s7 = .pointer (some ⟨Gb, 0, none⟩) ∧ w.heap.size + 1 < Gb ∧ ¬ g = Gb ∧ Hid (Cur3 wx Gb (.slice (some ⟨g, 0, none⟩) n cap') (.int .i64 p) (.int .i64 inc)) ∧
    Hid (wx.ownsRow (w.heap.size + 1 + 1) 3 1 (.slice (some ⟨g, 0, none⟩) n cap') n (zs.map (Value.int .i64))) ∧ Hid (Below (w.heap.size + 1 + 1) W wx))
  case first =>
    go_region_held3 (fun w' => w'.cell? ⟨w.heap.size, 0, none⟩ = some (.slice (some x) n cap) ∧ w'.cell? ⟨w.heap.size, 1, none⟩ = some (.int .i64 p) ∧ w'.cell? ⟨w.heap.size, 2, none⟩ = some (.int .i64 inc) ∧ Hid (Below (w.heap.size + 1 + 1) W w'))
      (first | with_reducible exact HK0.out | with_reducible exact HkD.out _ (by assumption) | with_reducible exact HkA.out _ _ (by assumption) | with_reducible exact HkAD.out _ _ (by assumption) | with_reducible exact HkG.out _ _ _ _ _ (by assumption) hgrow hN0.out | with_reducible exact HkG.out _ _ _ _ _ (by assumption) hgrow hN1'.out | with_reducible exact Hk3.out _ _ _ _ _ (by assumption) hN0.out | with_reducible exact Hk3.out _ _ _ _ _ (by assumption) hN1'.out | with_reducible exact HkS.out _ _ _ (by assumption) (hgsz.out) | with_reducible exact HkSD.out _ _ _ (by assumption) hN0.out | with_reducible exact HkSD.out _ _ _ (by assumption) hN01.out)
      ((refine step_append_lies _ (by rfl) _ _ _ (by rfl) (w.heap.size + 1 + 1) 3 i0 _ 1 8 Tryz.underlying22 hi hz0 hz1 hz2 rfl (by decide) _ 0 [] (by rfl) (by first | exact hO1.out | exact hO2.out _ | exact hO3.out _) x n cap (zs.map (Value.int .i64)) (by rfl) (by rw [List.length_map, Nat.mul_one]; exact HL.out) (newsOf H.out HSZ.out (by assumption)) (one_ints zs) (by omega) (by unfold maxLen; omega) (by omega) (baseOf HSZ.out (by assumption)) _ rfl ?_; intro g cap' w1 hown1 hgrow hat hlt; obtain ⟨hgc, hgf⟩ := grownRules hgrow; have hat2 := Lib.hid (hatOf hat); have hgsz := Lib.hid (Nat.le_trans (baseOf HSZ.out (by assumption)) hgrow.size)))
    all_goals go_wp2_with fail
    all_goals go_meet
    all_goals (try simp only [Nat.zero_add, List.nil_append] at hown1)
    all_goals first
      | exact ⟨w1.heap.size, g, cap', rfl, by have := hgsz.out; omega, by omega, Cur3.new _ _ _ _ _, hown1.alloc _, kept_out (by assumption)⟩
      | exact ⟨W.heap.size + 1, g, cap', rfl, by have := hN0.out; omega, by have := hat2.out; simp at this; omega, (Cur3.grownS (Cur3.drewL (Cur3.new2 W _ _ _ _ _)) hgrow (by omega)).set _ _ _, owns_set3 hown1 (by have := hat2.out; simp at this; omega) _ _ _, kept_out (by assumption)⟩
      | exact ⟨W.heap.size, g, cap', rfl, by have := hN0.out; omega, by have := hat2.out; simp at this; omega, (Cur3.grownS (Cur3.drewL ((Cur3.new W _ _ _ _).alloc _)) hgrow (by omega)).set _ _ _, owns_set3 hown1 (by have := hat2.out; simp at this; omega) _ _ _, kept_out (by assumption)⟩
  case rest =>
    obtain ⟨Gb, g0, cap0, rfl, hGb, hg0, KG0, HO0, HB0⟩ := hcut
    obtain ⟨w0, rfl⟩ : ∃ u : World, u = wc := ⟨_, rfl⟩
    have HBW : Hid (Below W.heap.size W w0) := Lib.hid (by rw [HSZ.out]; exact HB0.out)
    have hFe := HFE.out
    have HPer : Hid (Per F (n - p) p inc) := Lib.hid (by rw [← hFe]; have := G.out.per HF.out; rwa [HL.out] at this)
    have HBD : Hid (∀ t : Nat, 0 ≤ F t ∧ F t ≤ 1073741824 * ((t : Int) + 1)) := Lib.hid (by rw [← hFe]; exact G.out.bd HF.out)
    have HFZ : Hid (firsts F n = zs) := Lib.hid (by rw [← hFe, ← HL.out]; exact firsts_atC zs p inc)
    clear hFe
    obtain ⟨j, hj⟩ : ∃ j, n = j + 1 := ⟨n - 1, by omega⟩
    obtain ⟨x', hx, cl⟩ := (H.out.under HBW.out).cell j (by omega)
    obtain rfl : x = x' := Option.some.inj hx
    obtain ⟨l, hl⟩ : ∃ l, zs.getD j 0 = l := ⟨_, rfl⟩
    rw [hl] at cl
    have hln : (l == 4611686018427387904) = false := by
      have := HF.out
      rw [HL.out, show n - 1 = j by omega, hl] at this
      simpa using this
    have hn0 : ((n : Int) == 0) = false := by simp; omega
    have qb1 : decide (n < p) = false := by simp; omega
    have qb2 : decide ((p : Int) < 1) = false := by simp; omega
    have q1 : (n : Int) - 1 = (j : Int) := by omega
    have q2 : (j : Int) < (n : Int) := by omega
    obtain ⟨t1, ht1⟩ : ∃ t1, times = t1 + 1 := ⟨times - 1, by omega⟩
    obtain ⟨M, hM⟩ : ∃ M, t1 * p = M := ⟨_, rfl⟩
    have hMK : more + M = K := by rw [← HK.out, ← hM, ht1]; rfl
    have q3 : (times : Int) - 1 = (t1 : Int) := by omega
    have hMb : M ≤ 400 := by omega
    have q4 : IntKind.i64.wrap ((t1 : Int) * (p : Int)) = (M : Int) := by
      rw [show (t1 : Int) * (p : Int) = (M : Int) by rw [← hM]; simp]
      exact IntWalk.i64_in _ ⟨by omega, by omega⟩
    have q5 : (more : Int) + (M : Int) = (K : Int) := by omega
    have HJ := Lib.hid (And.intro hj (And.intro hl (And.intro ht1 hM)))
    clear hj hl ht1 hM hx hMK
    have KF0 := Lib.hid (KF.out.below HBW.out)
    have KR0 := Lib.hid (KR.out.below HBW.out)
    clear c0 c1 c2 f0 f1 f2
    obtain ⟨c0, c1, c2, f0, f1, f2⟩ := KF0.out
    go_wp2_with fail
    clear c0 c1 c2 f0 f1 f2 cl hln hn0 q1 q2 q3 q4 q5
    go_loopw [8] (fun s8 wx => ∃ q m g cap' : Nat, s8 = .int .i64 q ∧ m + q = n + K ∧ n ≤ m ∧ Hid (¬ g = Gb) ∧ Hid (Cur3 wx Gb (.slice (some ⟨g, 0, none⟩) m cap') (.int .i64 p) (.int .i64 inc)) ∧
      Hid (wx.ownsRow (w.heap.size + 1 + 1) 3 1 (.slice (some ⟨g, 0, none⟩) m cap') m ((firsts F m).map (Value.int .i64))) ∧ Hid (Below (w.heap.size + 1 + 1) W wx)) (fun s8 _ => (intOf s8).toNat)
    case atStart => exact ⟨K, n, g0, cap0, rfl, rfl, Nat.le_refl _, hg0, KG0, by rw [HFZ.out]; exact HO0, HB0⟩
    case round =>
      obtain ⟨q, m, g, cap', rfl, hmq, hnm, hgG, KG, HO, HBx⟩ := hrel
      obtain ⟨w5, rfl⟩ : ∃ u : World, u = wr := ⟨_, rfl⟩
      have HBX : Hid (Below W.heap.size W w5) := Lib.hid (by rw [HSZ.out]; exact HBx.out)
      have KF5 := Lib.hid (KF.out.below HBX.out)
      have KR5 := Lib.hid (KR.out.below HBX.out)
      by_cases hq : q = 0
      · subst hq
        obtain rfl : m = n + K := by omega
        obtain ⟨PT, hPT⟩ : ∃ PT, p * times = PT := ⟨_, rfl⟩
        obtain ⟨IT, hIT⟩ : ∃ IT, inc * (times : Int) = IT := ⟨_, rfl⟩
        have hPTb : PT ≤ 120 * 1000 := by rw [← hPT]; exact Nat.mul_le_mul hp2 ht2
        have hITb : 0 ≤ IT ∧ IT ≤ 1073741824 * 1000 := by rw [← hIT]; exact ⟨Int.mul_nonneg hi0' (by omega), Int.mul_le_mul hi1' (by omega) (by omega) (by omega)⟩
        have r1 : IntKind.i64.wrap ((p : Int) * (times : Int)) = (PT : Int) := by rw [show (p : Int) * (times : Int) = (PT : Int) by rw [← hPT]; simp]; exact IntWalk.i64_in _ ⟨by omega, by omega⟩
        have r2 : IntKind.i64.wrap (inc * (times : Int)) = IT := by rw [hIT]; exact IntWalk.i64_in _ ⟨by omega, by omega⟩
        have HPI := Lib.hid (And.intro hPT hIT)
        clear hPT hIT hPTb hITb
        obtain ⟨c0, c1, c2, f0, f1, f2⟩ := KF5.out
        obtain ⟨d0, d1, d2, e0, e1, e2⟩ := KG.out
        obtain ⟨o0, o1, o2, o3, o4, o5⟩ := KR5.out
        have n1 : ¬ w.heap.size = Gb := by omega
        have n2 : ¬ Gb = w.heap.size := by omega
        have n3 : ¬ w.heap.size + 1 = Gb := by omega
        have n4 : ¬ Gb = w.heap.size + 1 := by omega
        go_wp2_with fail
        go_region
        all_goals go_wp2_with fail
        all_goals
          obtain ⟨o0', o1', o2', o3', o4', o5'⟩ := (KR5.out.other n3 1 (.int .i64 PT)).other n3 2 (.int .i64 IT)
          refine bodyPost_ret (v := curV (some ⟨g, 0, none⟩) (n + K) cap' PT IT) (by simp [results, Tryz.results30, go_sem, o0', o1', o2']) rfl ?_
          obtain ⟨rfl, rfl⟩ := HPI.out
          exact long_post (HB.out.trans (HBx.out.mono (by omega))) HO.out (by omega) (by omega) hgG.out (fun i hi => by rw [firsts_length] at hi; rw [firsts_getD _ _ _ hi]; have := HBD.out i; exact ⟨by omega, by omega⟩) (by omega)
      · obtain ⟨q', rfl⟩ : ∃ q', q = q' + 1 := ⟨q - 1, by omega⟩
        clear hq
        obtain ⟨i, hi2⟩ : ∃ i, m = i + p := ⟨m - p, by omega⟩
        obtain ⟨u, hu⟩ : ∃ u, F i = u := ⟨_, rfl⟩
        obtain ⟨v, hv⟩ : ∃ v, F m = v := ⟨_, rfl⟩
        have hper := HPer.out i (by omega)
        rw [← hi2, hu, hv] at hper
        have bu := HBD.out i
        have bv := HBD.out m
        rw [hu] at bu
        rw [hv] at bv
        have ci : w5.cell? ⟨g, i, none⟩ = some (.int .i64 u) := by
          have h1 := owns_cell HO.out (i := i) (by rw [firsts_length]; omega)
          rwa [firsts_getD _ _ _ (show i < m by omega), hu] at h1
        have r1 : IntKind.i64.wrap ((m : Int) - (p : Int)) = (i : Int) := by rw [show (m : Int) - (p : Int) = (i : Int) by omega]; exact IntWalk.i64_in _ ⟨by omega, by omega⟩
        have r2 : IntKind.i64.wrap (u + inc) = v := by rw [← hper]; exact IntWalk.i64_in _ ⟨by omega, by omega⟩
        have r3 : (0 : Int) ≤ (i : Int) := by omega
        have r4 : (i : Int) < (m : Int) := by omega
        have HU := Lib.hid (And.intro hi2 (And.intro hu hv))
        clear hi2 hu hv hper bu bv
        obtain ⟨c0, c1, c2, f0, f1, f2⟩ := KF5.out
        obtain ⟨d0, d1, d2, e0, e1, e2⟩ := KG.out
        have hGlt := KG.out.lt
        have hFlt := KF5.out.lt
        have hgn := hgG.out
        have hgn2 : ¬ Gb = g := fun e => hgn e.symm
        go_wp2_with fail
        refine wp_region_keeps (fun w' => w'.cell? ⟨Gb, 0, none⟩ = some (.slice (some ⟨g, 0, none⟩) m cap') ∧ w'.cell? ⟨w.heap.size, 1, none⟩ = some (.int .i64 p) ∧ w'.cell? ⟨w.heap.size, 2, none⟩ = some (.int .i64 inc) ∧ w'.cell? ⟨g, i, none⟩ = some (.int .i64 u)) 16 3 (by kernel_rfl) (by kernel_rfl) ⟨d0, c1, c2, ci⟩ (fun hHeld => ?_)
        refine wpAnyK_take (i := 0) (v := ?_) rfl (by kernel_rfl) (fun _ _ _ h => h) (Or.inl ⟨by rfl, ?_⟩) (by assumption) ?_
        rotate_left
        · (intro w hSw; (try dsimp only at hSw); go_simp; try with_reducible rfl)
        try simp only [Act.put, List.setIfInBounds_toArray, List.set_cons_zero, List.set_cons_succ]
        refine wpAnyK_take (i := 1) (v := ?_) rfl (by kernel_rfl) (fun _ _ _ h => h) (Or.inl ⟨by rfl, ?_⟩) (by assumption) ?_
        rotate_left
        · (intro w hSw; (try dsimp only at hSw); go_simp; try with_reducible rfl)
        try simp only [Act.put, List.setIfInBounds_toArray, List.set_cons_zero, List.set_cons_succ]
        refine wpAnyK_take (i := 2) (v := ?_) rfl (by kernel_rfl) (fun _ _ _ h => h) (Or.inl ⟨by rfl, ?_⟩) (by assumption) ?_
        rotate_left
        · (intro w hSw; (try dsimp only at hSw); go_simp; try with_reducible rfl)
        try simp only [Act.put, List.setIfInBounds_toArray, List.set_cons_zero, List.set_cons_succ]
        refine wpAnyK_take (i := 3) (v := ?_) rfl (by kernel_rfl) (fun _ _ _ h => h) (Or.inl ⟨by rfl, ?_⟩) (by assumption) ?_
        rotate_left
        · (intro w hSw; (try dsimp only at hSw); go_simp; try with_reducible rfl)
        try simp only [Act.put, List.setIfInBounds_toArray, List.set_cons_zero, List.set_cons_succ]
        refine wpAnyK_take (i := 4) (v := ?_) rfl (by kernel_rfl) (fun _ _ _ h => h) (Or.inl ⟨by rfl, ?_⟩) (by assumption) ?_
        rotate_left
        · (intro w hSw; (try dsimp only at hSw); go_simp; try with_reducible rfl)
        try simp only [Act.put, List.setIfInBounds_toArray, List.set_cons_zero, List.set_cons_succ]
        refine wpAnyK_take (i := 5) (v := ?_) rfl (by kernel_rfl) (fun _ _ _ h => h) (Or.inl ⟨by rfl, ?_⟩) (by assumption) ?_
        rotate_left
        · (intro w hSw; (try dsimp only at hSw); go_simp; try with_reducible rfl)
        try simp only [Act.put, List.setIfInBounds_toArray, List.set_cons_zero, List.set_cons_succ]
        refine wpAnyK_take (i := 6) (v := ?_) rfl (by kernel_rfl) (fun _ _ _ h => h) (Or.inl ⟨by rfl, ?_⟩) (by assumption) ?_
        rotate_left
        · (intro w hSw; (try dsimp only at hSw); go_simp; try with_reducible rfl)
        try simp only [Act.put, List.setIfInBounds_toArray, List.set_cons_zero, List.set_cons_succ]
        refine wpAnyK_take (i := 7) (v := ?_) rfl (by kernel_rfl) (fun _ _ _ h => h) (Or.inl ⟨by rfl, ?_⟩) (by assumption) ?_
        rotate_left
        · (intro w hSw; (try dsimp only at hSw); go_simp; try with_reducible rfl)
        try simp only [Act.put, List.setIfInBounds_toArray, List.set_cons_zero, List.set_cons_succ]
        refine wpAnyK_take (i := 8) (v := ?_) rfl (by kernel_rfl) (fun _ _ _ h => h) (Or.inl ⟨by rfl, ?_⟩) (by assumption) ?_
        rotate_left
        · (intro w hSw; (try dsimp only at hSw); go_simp; try with_reducible rfl)
        try simp only [Act.put, List.setIfInBounds_toArray, List.set_cons_zero, List.set_cons_succ]
        refine wpAnyK_take (i := 9) (v := ?_) rfl (by kernel_rfl) (fun _ _ _ h => h) (Or.inl ⟨by rfl, ?_⟩) (by assumption) ?_
        rotate_left
        · (intro w hSw; (try dsimp only at hSw); go_simp; try with_reducible rfl)
        try simp only [Act.put, List.setIfInBounds_toArray, List.set_cons_zero, List.set_cons_succ]
        refine wpAnyK_take (i := 10) (v := ?_) rfl (by kernel_rfl) (fun _ _ _ h => h) (Or.inl ⟨by rfl, ?_⟩) (by assumption) ?_
        rotate_left
        · (intro w hSw; (try dsimp only at hSw); go_simp; try with_reducible rfl)
        try simp only [Act.put, List.setIfInBounds_toArray, List.set_cons_zero, List.set_cons_succ]
        refine wpAnyK_take (i := 11) (v := ?_) rfl (by kernel_rfl) (fun _ _ _ h => h) (Or.inl ⟨by rfl, ?_⟩) (by assumption) ?_
        rotate_left
        · (intro w hSw; (try dsimp only at hSw); go_simp; try with_reducible rfl)
        try simp only [Act.put, List.setIfInBounds_toArray, List.set_cons_zero, List.set_cons_succ]
        refine wpAnyK_take (i := 12) (v := ?_) rfl (by kernel_rfl) (fun _ _ _ h => h) (Or.inl ⟨by rfl, ?_⟩) (by assumption) ?_
        rotate_left
        · (intro w hSw; (try dsimp only at hSw); go_simp; try with_reducible rfl)
        try simp only [Act.put, List.setIfInBounds_toArray, List.set_cons_zero, List.set_cons_succ]
        refine wpAnyK_take (i := 13) (v := ?_) rfl (by kernel_rfl) (fun _ _ _ h => h) (Or.inl ⟨by rfl, ?_⟩) (by assumption) ?_
        rotate_left
        · (intro w hSw; (try dsimp only at hSw); go_simp; try with_reducible rfl)
        try simp only [Act.put, List.setIfInBounds_toArray, List.set_cons_zero, List.set_cons_succ]
        refine wpAnyK_take (i := 14) (v := ?_) rfl (by kernel_rfl) (fun _ _ _ h => h) (Or.inl ⟨by rfl, ?_⟩) (by assumption) ?_
        rotate_left
        · (intro w hSw; (try dsimp only at hSw); go_simp; try with_reducible rfl)
        try simp only [Act.put, List.setIfInBounds_toArray, List.set_cons_zero, List.set_cons_succ]
        refine wpAnyK_step (i := 15) rfl (by kernel_rfl) (fun K hK => ?_)
        go_simp
        refine hK.out _ _ (l4_alloc d0 c1 c2 ci _) (fun hHeld2 => ?_)
        clear hK K hHeld
        refine wpAnyK_done (by kernel_rfl) ?_
        simp only [List.drop_succ_cons, List.drop_zero]
        have HO6 : Hid ((w5.alloc (.cells #[.int .i64 v] 3)).drew.ownsRow (w.heap.size + 1 + 1) 3 1 (.slice (some ⟨g, 0, none⟩) m cap') m ((firsts F m).map (Value.int .i64))) := Lib.hid (HO.out.alloc _)
        have HN6 : Hid (∀ j u, [Value.int .i64 v][j]? = some u → (w5.alloc (.cells #[.int .i64 v] 3)).drew.cell? ((⟨w5.heap.size, 0, none⟩ : Addr).add j) = some u) := Lib.hid (World.news_of_block (cs := #[.int .i64 v]) (t := 3) (fr := (0, 0)) (heap_alloc_new w5 _))
        have KG6 := Lib.hid (KG.out.alloc (.cells #[.int .i64 v] 3)).drewL
        have HB6 := Lib.hid (HBx.out.alloc (by have := HBx.out.size; have := HSZ.out; omega) (.cells #[.int .i64 v] 3)).drew
        have hz6 : (w5.alloc (.cells #[.int .i64 v] 3)).drew.heap.size = w5.heap.size + 1 := by show (w5.heap.push _).size = _; simp
        generalize (w5.alloc (.cells #[.int .i64 v] 3)).drew = w6 at HO6 HN6 KG6 HB6 hz6 ⊢
        have HZ6 := Lib.hid hz6
        have HH6 := hHeld2
        clear c0 c1 c2 f0 f1 f2 d0 d1 d2 e0 e1 e2 ci hz6 hHeld2 HH6
        go_wp2_with (at_builtin; refine wpList_append_lies _ rfl _ _ 22 rfl (w.heap.size + 1 + 1) 3 i0 (.int .i64 0) 1 8 Tryz.underlying22 hi hz0 hz1 hz2 rfl (by decide) (.slice (some ⟨g, 0, none⟩) m cap') m ((firsts F m).map (Value.int .i64)) rfl HO6.out ⟨w5.heap.size, 0, none⟩ 1 1 [.int .i64 v] rfl rfl HN6.out ?l2 (by omega) ?l3 ?l4 ?l5 _ rfl ?_)
        case l2 => intro u hu; simp at hu; subst hu; rfl
        case l3 => unfold maxLen; omega
        case l4 => omega
        case l5 => have h1 := HB6.out.size; have h2 := HSZ.out; omega
        intro g2 cap2 w1 hown1 hgrow hat hlt
        have hat2 := hatOf hat
        have hg2 : ¬ g2 = Gb := by
          have hz := HZ6.out
          rcases hat2 with h | h
          · rw [h]; exact hgn
          · intro hx; rw [hx] at h; omega
        have KG7 := Lib.hid (KG6.out.grownS hgrow hgn)
        have HO7 := Lib.hid hown1
        have HB7 : Hid (Below (w.heap.size + 1 + 1) W w1) := Lib.hid (HB6.out.grown hgrow (by have := HB6.out.size; have := HSZ.out; omega) (fun j hj => by cases hj; exact (HO.out.lt g rfl).1))
        clear hown1 hgrow hat hat2 hlt
        obtain ⟨d0, d1, d2, e0, e1, e2⟩ := KG7.out
        go_wp2_with fail
        go_roundw
        case rel =>
          refine ⟨q', m + 1, g2, cap2, by go_num, by omega, by omega, hg2, ?_, ?_, ?_⟩
          · exact Lib.hid (KG7.out.set0 _)
          · have e : (firsts F (m + 1)).map (Value.int .i64) = (firsts F m).map (Value.int .i64) ++ [.int .i64 v] := by rw [firsts_succ, List.map_append, HU.out.2.2]; rfl
            rw [e]
            exact Lib.hid (owns_ne (p := ⟨Gb, 0, none⟩) HO7.out hg2 _)
          · exact Lib.hid (HB7.out.setCell (p := ⟨Gb, 0, none⟩) (by show w.heap.size + 1 + 1 ≤ Gb; omega) _)
        case measure => simp [intOf]

theorem longer_i (a : Option Addr) (n cap : Nat) (zs : List Int) (p : Nat) (inc : Int) (g : Good zs p inc) (hf : ¬ zs.getD (zs.length - 1) 0 = infV) (mi ti : Int) (more times K : Nat) (hmi : mi = more) (hti : ti = times) (hK : more + (times - 1) * p = K) (ht : 1 ≤ times) (ht2 : times ≤ 1000) (hm : more ≤ 1000) (hKn : n + K ≤ 400) (w : World) (h : RowZ w a n cap zs) :
    Calls Tryz.prog 30 #[curV a n cap p inc, .int .i64 mi, .int .i64 ti] w (GivesLong (atC zs p inc) (n + K) (p * times) (inc * times) w) := by
  subst hmi hti; exact longer_fin a n cap zs p inc g hf more times K hK ht ht2 hm hKn w h

end Go.Proofs.YtkienpbmoilheaaGreat

namespace Go.Proofs.YtkienpbmoilheaaGreat
open Go.RowKit
set_option linter.unusedSimpArgs false

/-- The reader's block in a later world, in which of the elder blocks only it has turned. -/
structure Held (w : World) (b : Nat) (a : Option Addr) (n cap : Nat) (w' : World) : Prop where
  src : ∃ k : Nat, k ≤ n ∧ w'.heap[b]? = some (.cells #[.slice a n cap, .int .i64 k] 57 (0, 0))
  ap : Apart b w w'

theorem Held.start {w : World} {b : Nat} {a : Option Addr} {n cap : Nat} (h : SrcAt w b a n cap) : Held w b a n cap w := ⟨h.src, Apart.refl _ _⟩
theorem Held.at {w w' : World} {b : Nat} {a : Option Addr} {n cap : Nat} (h : Held w b a n cap w') (hs : SrcAt w b a n cap) : SrcAt w' b a n cap := hs.mk2 h.ap h.src
theorem Held.lt {w w' : World} {b : Nat} {a : Option Addr} {n cap : Nat} (h : Held w b a n cap w') : b < w'.heap.size := by
  obtain ⟨k, _, hb⟩ := h.src
  rcases Nat.lt_or_ge b w'.heap.size with h' | h'
  · exact h'
  · simp [Array.getElem?_eq_none h'] at hb
theorem Held.call {w u v : World} {b : Nat} {a : Option Addr} {n cap : Nat} (h : Held w b a n cap u) (hs : SrcAt v b a n cap) (ha : Apart b u v) : Held w b a n cap v := ⟨hs.src, h.ap.trans ha⟩
theorem Held.alloc {w u : World} {b : Nat} {a : Option Addr} {n cap : Nat} (h : Held w b a n cap u) (o : Obj) : Held w b a n cap (u.alloc o) := by
  have hb : Below u.heap.size u (u.alloc o) := (Below.refl _ _).alloc (Nat.le_refl _) _
  obtain ⟨k, hk, hs⟩ := h.src
  exact ⟨⟨k, hk, (hb.block b h.lt).trans hs⟩, h.ap.alloc o⟩
theorem Held.drew {w u : World} {b : Nat} {a : Option Addr} {n cap : Nat} (h : Held w b a n cap u) : Held w b a n cap u.drew := ⟨h.src, ⟨h.ap.os, h.ap.tape, h.ap.output, h.ap.size, h.ap.block⟩⟩
theorem Held.drewN {w u : World} {b : Nat} {a : Option Addr} {n cap : Nat} (h : Held w b a n cap u) (m : Nat) : Held w b a n cap (u.drewN m) := ⟨h.src, h.ap.drewN m⟩
theorem Held.set {w u : World} {b : Nat} {a : Option Addr} {n cap : Nat} (h : Held w b a n cap u) (hb : b < w.heap.size) {p : Addr} (hp : w.heap.size ≤ p.block) (v : Value) : Held w b a n cap (u.setCell p v) := by
  obtain ⟨k, hk, hs⟩ := h.src
  exact ⟨⟨k, hk, (Below.heap_setCell _ _ _ _ (by omega)).trans hs⟩, h.ap.setNew hp v⟩
theorem Held.grown {w u v : World} {b : Nat} {a : Option Addr} {n cap : Nat} (h : Held w b a n cap u) (hb : b < w.heap.size) {row : Option Nat} (hg : u.grownBy v row) (hr : ∀ j, row = some j → w.heap.size ≤ j) : Held w b a n cap v := by
  obtain ⟨k, hk, hs⟩ := h.src
  exact ⟨⟨k, hk, (hg.block b h.lt (fun e => by have := hr b e.symm; omega)).trans hs⟩, h.ap.grown hg hr⟩
theorem Held.below {w u v : World} {b : Nat} {a : Option Addr} {n cap : Nat} (h : Held w b a n cap u) (hb : Below u.heap.size u v) : Held w b a n cap v := by
  obtain ⟨k, hk, hs⟩ := h.src
  exact ⟨⟨k, hk, (hb.block b h.lt).trans hs⟩, h.ap.trans (below_apart hb)⟩

/-- A curve is handed back, in memory of the call's own; of the elder blocks only the reader's has turned. -/
def GivesCur (most : Nat) (b : Nat) (a : Option Addr) (n cap : Nat) (w : World) (e : Ending) (w' : World) : Prop :=
  ∃ (a' : Option Addr) (n' cap' : Nat) (zs : List Int) (p : Nat) (inc : Int), e = .returned (curV a' n' cap' p inc) ∧ SrcAt w' b a n cap ∧ Apart b w w' ∧ RowZ w' a' n' cap' zs ∧ OkCur most zs p inc ∧ ∀ x, a' = some x → w.heap.size ≤ x.block

theorem cur_post {most b n cap n' cap' p : Nat} {a a' : Option Addr} {zs : List Int} {inc : Int} {w w9 : World} (HD : Held w b a n cap w9) (hS : SrcAt w b a n cap) (hbl : b < w.heap.size) (hr : RowZ w9 a' n' cap' zs) (hx : ∀ x, a' = some x → w.heap.size < x.block) (ok : OkCur most zs p inc) :
    GivesCur most b a n cap w (.returned (curV a' n' cap' p inc)) (((w9.setCell ⟨w.heap.size, 0, none⟩ (.slice a' n' cap')).setCell ⟨w.heap.size, 1, none⟩ (.int .i64 p)).setCell ⟨w.heap.size, 2, none⟩ (.int .i64 inc)) :=
  have H := ((HD.set hbl (p := ⟨w.heap.size, 0, none⟩) (Nat.le_refl _) (.slice a' n' cap')).set hbl (p := ⟨w.heap.size, 1, none⟩) (Nat.le_refl _) (.int .i64 p)).set hbl (p := ⟨w.heap.size, 2, none⟩) (Nat.le_refl _) (.int .i64 inc)
  ⟨a', n', cap', zs, p, inc, rfl, H.at hS, H.ap, ((hr.store (fun x h _ => Nat.ne_of_gt (hx x h)) _ _).store (fun x h _ => Nat.ne_of_gt (hx x h)) _ _).store (fun x h _ => Nat.ne_of_gt (hx x h)) _ _, ok, fun x h => Nat.le_of_lt (hx x h)⟩

theorem RowZ.else {w w' : World} {g k cap b : Nat} {zs : List Int} (h : RowZ w (some ⟨g, 0, none⟩) k cap zs) (he : Else b w w') (hg : ¬ g = b) : RowZ w' (some ⟨g, 0, none⟩) k cap zs :=
  ⟨h.len, h.le, h.sm, h.cm, fun i hi => by
    obtain ⟨x, h1, h2⟩ := h.cell i hi
    refine ⟨x, h1, (he.cell ?_).trans h2⟩
    rw [add_block]; cases h1; exact hg, h.bd⟩
theorem RowZ.elseD {w w' : World} {g k cap b : Nat} {zs : List Int} (h : RowZ w (some ⟨g, 0, none⟩) k cap zs) (he : Else b w.drew w') (hg : ¬ g = b) : RowZ w' (some ⟨g, 0, none⟩) k cap zs :=
  RowZ.else (w := w.drew) ⟨h.len, h.le, h.sm, h.cm, h.cell, h.bd⟩ he hg
theorem small_mul {mb ma p N most : Nat} (h1 : mb ≤ 1) (h2 : ma ≤ 3) (h3 : p ≤ 4) (h4 : N ≤ most) (h5 : most ≤ 9) : N + (ma + (mb + 1 - 1) * p) ≤ 400 := by
  have : (mb + 1 - 1) * p ≤ 1 * 4 := Nat.mul_le_mul (by omega) h3
  omega

theorem cur_post2 {most b n cap N ma mb cap3 p : Nat} {a a3 : Option Addr} {F : Nat → Int} {inc : Int} {w wd : World} (HD : Held w b a n cap wd) (hS : SrcAt w b a n cap) (hbl : b < w.heap.size)
    (hr : RowZ wd a3 (N + (ma + (mb + 1 - 1) * p)) cap3 (firsts F (N + (ma + (mb + 1 - 1) * p)))) (hx : ∀ x, a3 = some x → w.heap.size + 1 < x.block) (ok : OkCur most (firsts F (N + (ma + (mb + 1 - 1) * p))) (p * (mb + 1)) (inc * ((mb + 1 : Nat) : Int))) :
    GivesCur most b a n cap w (.returned (curV a3 (N + (ma + mb * p)) cap3 ((p : Int) * ((mb : Int) + 1)) (inc * ((mb : Int) + 1))))
      ((((((wd.setCell ⟨w.heap.size + 1, 0, none⟩ (.slice a3 (N + (ma + mb * p)) cap3)).setCell ⟨w.heap.size + 1, 1, none⟩ (.int .i64 ((p : Int) * ((mb : Int) + 1)))).setCell ⟨w.heap.size + 1, 2, none⟩ (.int .i64 (inc * ((mb : Int) + 1)))).setCell
        ⟨w.heap.size, 0, none⟩ (.slice a3 (N + (ma + mb * p)) cap3)).setCell ⟨w.heap.size, 1, none⟩ (.int .i64 ((p : Int) * ((mb : Int) + 1)))).setCell ⟨w.heap.size, 2, none⟩ (.int .i64 (inc * ((mb : Int) + 1)))) := by
  rw [Nat.add_sub_cancel] at hr ok
  have e1 : (p : Int) * ((mb : Int) + 1) = ((p * (mb + 1) : Nat) : Int) := by simp
  have e2 : inc * ((mb : Int) + 1) = inc * ((mb + 1 : Nat) : Int) := by simp
  rw [e1, e2]
  have hne : ∀ x, a3 = some x → ¬ x.block = w.heap.size + 1 := fun x h => Nat.ne_of_gt (hx x h)
  exact cur_post (((HD.set hbl (p := ⟨w.heap.size + 1, 0, none⟩) (Nat.le_succ _) _).set hbl (p := ⟨w.heap.size + 1, 1, none⟩) (Nat.le_succ _) _).set hbl (p := ⟨w.heap.size + 1, 2, none⟩) (Nat.le_succ _) _) hS hbl
    (((hr.store (fun x h _ => hne x h) _ _).store (fun x h _ => hne x h) _ _).store (fun x h _ => hne x h) _ _) (fun x h => Nat.lt_trans (Nat.lt_succ_self _) (hx x h)) ok

/-- What stands while the increment is reckoned: the reader, the curve's box and row, the result's box. -/
structure Mk (w : World) (b : Nat) (a : Option Addr) (n cap g N cap' p : Nat) (zs : List Int) (w' : World) : Prop where
  held : Held w b a n cap w'
  box : ∃ x2, Cur3 w' (w.heap.size + 1) (.slice (some ⟨g, 0, none⟩) N cap') (.int .i64 p) x2
  res : Cur3 w' w.heap.size (.slice none 0 0) (.int .i64 0) (.int .i64 0)
  row : w'.ownsRow (w.heap.size + 1 + 1) 3 1 (.slice (some ⟨g, 0, none⟩) N cap') N (zs.map (Value.int .i64))

theorem Cur3.drew' {w : World} {b : Nat} {x0 x1 x2 : Value} (h : Cur3 w b x0 x1 x2) : Cur3 w.drew b x0 x1 x2 := ⟨h.c0, h.c1, h.c2, h.f0, h.f1, h.f2⟩
theorem Mk.drew {w u : World} {b n cap g N cap' p : Nat} {a : Option Addr} {zs : List Int} (h : Mk w b a n cap g N cap' p zs u) : Mk w b a n cap g N cap' p zs u.drew := by
  obtain ⟨x2, hx⟩ := h.box
  exact ⟨h.held.drew, ⟨x2, hx.drew'⟩, h.res.drew', h.row⟩
theorem Mk.alloc {w u : World} {b n cap g N cap' p : Nat} {a : Option Addr} {zs : List Int} (h : Mk w b a n cap g N cap' p zs u) (o : Obj) : Mk w b a n cap g N cap' p zs (u.alloc o) := by
  obtain ⟨x2, hx⟩ := h.box
  exact ⟨h.held.alloc o, ⟨x2, hx.alloc o⟩, h.res.alloc o, h.row.alloc o⟩
theorem Mk.call {w u v : World} {b n cap g N cap' p : Nat} {a : Option Addr} {zs : List Int} (h : Mk w b a n cap g N cap' p zs u) (hb : b < w.heap.size) (hs : SrcAt v b a n cap) (he : Apart b u v) : Mk w b a n cap g N cap' p zs v := by
  obtain ⟨x2, hx⟩ := h.box
  exact ⟨h.held.call hs he, ⟨x2, hx.apart he (by omega)⟩, h.res.apart he (by omega), owns_apart h.row he (by omega)⟩
theorem Mk.set2 {w u : World} {b n cap g N cap' p : Nat} {a : Option Addr} {zs : List Int} (h : Mk w b a n cap g N cap' p zs u) (hb : b < w.heap.size) (x : Value) : Mk w b a n cap g N cap' p zs (u.setCell ⟨w.heap.size + 1, 2, none⟩ x) := by
  obtain ⟨x2, hx⟩ := h.box
  exact ⟨h.held.set hb (by show w.heap.size ≤ w.heap.size + 1; omega) x, ⟨x, hx.set2 x⟩, h.res.other (by omega) _ _, owns_set h.row (p := ⟨w.heap.size + 1, 2, none⟩) (Nat.lt_succ_self _) x⟩

/-- The cells that are read, and all that stands. -/
abbrev S9 (w : World) (b : Nat) (a : Option Addr) (n cap g N cap' p j i : Nat) (l m : Int) (zs : List Int) (w' : World) : Prop :=
  w'.cell? ⟨w.heap.size + 1, 0, none⟩ = some (.slice (some ⟨g, 0, none⟩) N cap') ∧ w'.cell? ⟨w.heap.size + 1, 1, none⟩ = some (.int .i64 p) ∧ w'.cell? ⟨g, j, none⟩ = some (.int .i64 l) ∧ w'.cell? ⟨g, i, none⟩ = some (.int .i64 m) ∧ Hid (Mk w b a n cap g N cap' p zs w')
theorem Mk.s9 {w u : World} {b n cap g N cap' p j i : Nat} {l m : Int} {a : Option Addr} {zs : List Int} (h : Mk w b a n cap g N cap' p zs u) (hl : zs.length = N) (hj : j < N) (hi : i < N) (el : zs.getD j 0 = l) (em : zs.getD i 0 = m) : S9 w b a n cap g N cap' p j i l m zs u := by
  obtain ⟨x2, hx⟩ := h.box
  exact ⟨hx.c0, hx.c1, by rw [← el]; exact owns_cell h.row (by omega), by rw [← em]; exact owns_cell h.row (by omega), h⟩
theorem S9.mk {w u : World} {b n cap g N cap' p j i : Nat} {l m : Int} {a : Option Addr} {zs : List Int} (h : S9 w b a n cap g N cap' p j i l m zs u) : Mk w b a n cap g N cap' p zs u := h.2.2.2.2.out

set_option maxRecDepth 100000 in
set_option maxHeartbeats 6400000 in
theorem curve_any (most : Nat) (hm1 : 1 ≤ most) (hm9 : most ≤ 9) (b : Nat) (a : Option Addr) (n cap : Nat) (w : World) (h : SrcAt w b a n cap) :
    Calls Tryz.prog 8 #[.pointer (some ⟨b, 0, none⟩), .int .i64 most] w (GivesCur most b a n cap w) := by
  obtain ⟨i0, hi, hz0, hz1, hz2⟩ := info_parts info_int
  have HS := Lib.hid h
  have hbl := h.lt
  have HD0 := Lib.hid ((Held.start h).alloc (.cells #[.slice none 0 0, .int .i64 0, .int .i64 0] 24))
  have KR0 := Lib.hid (Cur3.new w (.slice none 0 0) (.int .i64 0) (.int .i64 0) 24)
  have hbR : ¬ w.heap.size = b := by omega
  clear h
  go_enter Tryz.func8, Tryz.ntmps8
  go_wp2_with fail
  refine (n_any most (by omega) (by omega) b a n cap _ (HD0.out.at HS.out)).mono ?_
  rintro e w1 ⟨r1, hr1, rfl, hs, he⟩
  have HD1 := Lib.hid (HD0.out.call hs he.apart)
  have KR1 := Lib.hid (KR0.out.apart he.apart hbR)
  have z1 : w1.heap.size = w.heap.size + 1 := by rw [he.size]; simp
  have Z1 := Lib.hid z1
  clear hs he z1
  obtain ⟨N, hN⟩ : ∃ N : Nat, 1 + r1 = (N : Int) := ⟨(1 + r1).toNat, by omega⟩
  have hN1 : 1 ≤ N := by omega
  have hN2 : N ≤ most := by omega
  have hr0 := hr1.1
  have hr2 := hr1.2
  clear hr1
  go_upto_region 2 with fail
  clear hN hr0 hr2
  go_cut [6] (fun s6 wx => ∃ p : Nat, s6 = .pointer (some ⟨w.heap.size + 1, 0, none⟩) ∧ 1 ≤ p ∧ p ≤ 4 ∧ p ≤ N ∧ wx.heap.size = w.heap.size + 1 + 1 ∧ Hid (Held w b a n cap wx) ∧ Hid (Cur3 wx w.heap.size (.slice none 0 0) (.int .i64 0) (.int .i64 0)) ∧ Hid (Cur3 wx (w.heap.size + 1) (.slice none 0 0) (.int .i64 p) (.int .i64 0)))
  case first =>
    by_cases h4 : N ≤ 4
    · have h4' : (N : Int) ≤ 4 := by omega
      go_wp2_with fail
      refine (n_any (N : Int) (by omega) (by omega) b a n cap _ (HD1.out.at HS.out)).mono ?_
      rintro e w2 ⟨r2, hr2, rfl, hs, he⟩
      obtain ⟨p, hp⟩ : ∃ p : Nat, 1 + r2 = (p : Int) := ⟨(1 + r2).toNat, by omega⟩
      have p1 : 1 ≤ p := by omega
      have p2 : p ≤ N := by omega
      have q1 := hr2.1
      have q2 := hr2.2
      have z2 : w2.heap.size = w.heap.size + 1 := by rw [he.size]; exact Z1.out
      have HD2 := Lib.hid (HD1.out.call hs he.apart)
      have KR2 := Lib.hid (KR1.out.apart he.apart hbR)
      have KF2 := Lib.hid (Cur3.new w2 (.slice none 0 0) (.int .i64 p) (.int .i64 0) 24)
      have Z2 := Lib.hid z2
      clear hs he hr2 z2
      go_wp2_with fail
      go_meet
      exact ⟨p, by rw [Z2.out], p1, by omega, p2, by simp [Z2.out], HD2.out.alloc _, KR2.out.alloc _, by have := KF2.out; rwa [Z2.out] at this⟩
    · have h4' : (4 : Int) < (N : Int) := by omega
      go_wp2_with fail
      refine (n_any 4 (by omega) (by omega) b a n cap _ (HD1.out.at HS.out)).mono ?_
      rintro e w2 ⟨r2, hr2, rfl, hs, he⟩
      obtain ⟨p, hp⟩ : ∃ p : Nat, 1 + r2 = (p : Int) := ⟨(1 + r2).toNat, by omega⟩
      have p1 : 1 ≤ p := by omega
      have p2 : p ≤ 4 := by omega
      have q1 := hr2.1
      have q2 := hr2.2
      have z2 : w2.heap.size = w.heap.size + 1 := by rw [he.size]; exact Z1.out
      have HD2 := Lib.hid (HD1.out.call hs he.apart)
      have KR2 := Lib.hid (KR1.out.apart he.apart hbR)
      have KF2 := Lib.hid (Cur3.new w2 (.slice none 0 0) (.int .i64 p) (.int .i64 0) 24)
      have Z2 := Lib.hid z2
      clear hs he hr2 z2
      go_wp2_with fail
      go_meet
      exact ⟨p, by rw [Z2.out], p1, p2, by omega, by simp [Z2.out], HD2.out.alloc _, KR2.out.alloc _, by have := KF2.out; rwa [Z2.out] at this⟩
  case rest =>
    obtain ⟨p, rfl, hp1, hp4, hpN, hz, HD, KR, KF⟩ := hcut
    obtain ⟨w3, rfl⟩ : ∃ u : World, u = wc := ⟨_, rfl⟩
    have Z3 := Lib.hid hz
    have hlb : ¬ w3.heap.size = b := by omega
    clear hz
    go_wp2_with fail
    refine (pick_of (fun z => 0 ≤ z ∧ z ≤ 3) (fun z hz => ⟨by omega, by omega⟩) w3.heap.size 4 4 (by omega) (by omega) b hlb a n cap _ ((HD.out.alloc _).at HS.out) (list_newP _ w3 [0, 0, 0, 3] 3 (by decide))).mono ?_
    rintro e w4 ⟨v0, hv0, rfl, hs, he⟩
    have HD4 := Lib.hid ((HD.out.alloc (.cells #[.int .i64 0, .int .i64 0, .int .i64 0, .int .i64 3] 3)).call hs he)
    have KR4 := Lib.hid ((KR.out.alloc (.cells #[.int .i64 0, .int .i64 0, .int .i64 0, .int .i64 3] 3)).apart he hbR)
    have KF4 := Lib.hid ((KF.out.alloc (.cells #[.int .i64 0, .int .i64 0, .int .i64 0, .int .i64 3] 3)).apart he (by omega))
    have SQ := Lib.hid (SeqOk.nil hv0.1 hv0.2)
    clear hs he hv0
    go_wp2_with fail
    go_loopw [7, 8] (fun s7 s8 wx => ∃ (k : Nat) (zs : List Int) (v : Int) (sv : Value), s8 = .int .i64 k ∧ s7 = .int .i64 v ∧ k ≤ N ∧ Hid (zs.length = k) ∧ Hid (SeqOk zs v) ∧ Hid (Held w b a n cap wx) ∧ Hid (Cur3 wx w.heap.size (.slice none 0 0) (.int .i64 0) (.int .i64 0)) ∧
      Hid (Cur3 wx (w.heap.size + 1) sv (.int .i64 p) (.int .i64 0)) ∧ Hid (wx.ownsRow (w.heap.size + 1 + 1) 3 1 sv k (zs.map (Value.int .i64)))) (fun _ s8 _ => N - (intOf s8).toNat)
    case atStart => exact ⟨0, [], v0, .slice none 0 0, rfl, rfl, Nat.zero_le _, rfl, SQ, HD4, KR4, KF4, World.ownsRow_nil _ _ _ _⟩
    case round =>
      obtain ⟨k, zs, v, sv, rfl, rfl, hk, HL, HQ, HD5, KR5, KF5, HO⟩ := hrel
      obtain ⟨w5, rfl⟩ : ∃ u : World, u = wr := ⟨_, rfl⟩
      by_cases hlt : k < N
      · obtain ⟨c0, c1, c2, f0, f1, f2⟩ := KF5.out
        have hv0 : 0 ≤ v := HQ.out.1.2.2.1
        have hv1 : v ≤ 3 + 9 * 9 := by have := HQ.out.1.2.2.2; have := HL.out; omega
        go_wp2_with (at_builtin; refine wpList_append_own _ rfl _ _ 22 rfl (w.heap.size + 1 + 1) 3 i0 (.int .i64 0) 1 8 Tryz.underlying22 hi hz0 hz1 hz2 rfl (by decide) _ _ _ rfl (HO.out.alloc _) ⟨w5.heap.size, 0, none⟩ 1 1 [.int .i64 v] rfl rfl ?c1 ?c2 ?c3 ?c4 ?c5 ?_)
        case c1 =>
          intro j u hj
          match j, hj with
          | 0, hj => simp at hj; subst hj; simp [Addr.add]
        case c2 => intro u hu; simp at hu; subst hu; rfl
        case c3 => unfold maxLen; omega
        case c4 => omega
        case c5 => have := KF5.out.lt; simp; omega
        · intro v' w6 hown' hgrow _
          obtain ⟨g6, cap6, rfl, hg6, hg6'⟩ := hown'.form (Nat.succ_pos _)
          have hrow : ∀ j, sv.ownBlock = some j → w.heap.size + 1 + 1 ≤ j := fun j hj => (HO.out.lt j hj).1
          have HD6 := Lib.hid ((HD5.out.alloc (.cells #[.int .i64 v] 3)).grown hbl hgrow (fun j hj => by have := hrow j hj; omega))
          have KR6 := Lib.hid ((KR5.out.alloc (.cells #[.int .i64 v] 3)).grown hgrow (fun j hj => by have := hrow j hj; omega))
          have KF6 := Lib.hid ((KF5.out.alloc (.cells #[.int .i64 v] 3)).grown hgrow (fun j hj => by have := hrow j hj; omega))
          have HO6 := Lib.hid hown'
          clear hown' hgrow hrow c0 c1 c2 f0 f1 f2
          obtain ⟨c0, c1, c2, f0, f1, f2⟩ := KF6.out
          have h6b : ¬ w6.heap.size = b := by have := HD6.out.lt; omega
          go_wp2_with fail
          refine (pick_of (fun z => 0 ≤ z ∧ z ≤ 9) (fun z hz => ⟨by omega, by omega⟩) w6.heap.size 6 6 (by omega) (by omega) b h6b a n cap _ (((HD6.out.set hbl (by show w.heap.size ≤ w.heap.size + 1; omega) _).alloc _).at HS.out) ?pl).mono ?_
          case pl => exact fun i hi => by have := list_newP (fun z => 0 ≤ z ∧ z ≤ 9) (w6.setCell ⟨w.heap.size + 1, 0, none⟩ (.slice (some ⟨g6, 0, none⟩) (k + 1) cap6)) [0, 0, 1, 2, 5, 9] 3 (by decide) i hi; rwa [show (w6.setCell ⟨w.heap.size + 1, 0, none⟩ (.slice (some ⟨g6, 0, none⟩) (k + 1) cap6)).heap.size = w6.heap.size by simp [World.setCell]] at this
          rintro e w7 ⟨z, hz, rfl, hs, he⟩
          have HD7 := Lib.hid (((HD6.out.set hbl (by show w.heap.size ≤ w.heap.size + 1; omega) _).alloc _).call hs he)
          have KR7 := Lib.hid (((KR6.out.other (by omega) _ _).alloc _).apart he hbR)
          have KF7 := Lib.hid (((KF6.out.set0 _).alloc _).apart he (by omega))
          have HO7 := Lib.hid (owns_apart ((owns_set HO6.out (p := ⟨w.heap.size + 1, 0, none⟩) (Nat.lt_succ_self _) (.slice (some ⟨g6, 0, none⟩) (k + 1) cap6)).alloc (.cells #[.int .i64 0, .int .i64 0, .int .i64 1, .int .i64 2, .int .i64 5, .int .i64 9] 3)) he (by omega))
          have hz0' := hz.1
          have hz9 := hz.2
          clear hs he hz c0 c1 c2 f0 f1 f2
          go_wp2_with fail
          go_roundw
          case rel =>
            refine ⟨k + 1, zs ++ [v], v + z, _, by go_num, rfl, by omega, (show (zs ++ [v]).length = k + 1 from by simp [HL.out]), HQ.out.snoc hz0' hz9, HD7, KR7, KF7, ?_⟩
            rw [List.map_append]; exact HO7
          case measure => simp [intOf]; omega
      · obtain rfl : N = k := by omega
        obtain ⟨g, cap', rfl, hg, hg'⟩ := HO.out.form (by omega)
        have HM := Lib.hid (Mk.mk HD5.out ⟨_, KF5.out⟩ KR5.out HO.out)
        obtain ⟨j, hj⟩ : ∃ j, N = j + 1 := ⟨N - 1, by omega⟩
        obtain ⟨i, hi2⟩ : ∃ i, N = i + p := ⟨N - p, by omega⟩
        obtain ⟨l, hl⟩ : ∃ l, zs.getD j 0 = l := ⟨_, rfl⟩
        obtain ⟨m, hm⟩ : ∃ m, zs.getD i 0 = m := ⟨_, rfl⟩
        have hjN : j < N := by omega
        have hiN : i < N := by omega
        have HP := Lib.hid (fun (d : Int) (d0 : 0 ≤ d) (d8 : d ≤ 8) => okCur_plain hm9 HQ.out HL.out hN1 hN2 hp1 hp4 hpN d0 d8)
        have bl := (HP.out 0 (by omega) (by omega)).2.2.2.2 j hjN
        have bm := (HP.out 0 (by omega) (by omega)).2.2.2.2 i hiN
        rw [hl] at bl
        rw [hm] at bm
        have bl0 := bl.1
        have bl1 := bl.2
        have bm0 := bm.1
        have bm1 := bm.2
        have q1 : IntKind.i64.wrap ((N : Int) - 1) = (j : Int) := by rw [show (N : Int) - 1 = (j : Int) by omega]; exact IntWalk.i64_in _ ⟨by omega, by omega⟩
        have q2 : IntKind.i64.wrap ((N : Int) - (p : Int)) = (i : Int) := by rw [show (N : Int) - (p : Int) = (i : Int) by omega]; exact IntWalk.i64_in _ ⟨by omega, by omega⟩
        have q3 : (0 : Int) ≤ (j : Int) := by omega
        have q4 : (0 : Int) ≤ (i : Int) := by omega
        have q5 : (j : Int) < (N : Int) := by omega
        have q6 : (i : Int) < (N : Int) := by omega
        have q7 : IntKind.i64.wrap (l - m) = l - m := IntWalk.i64_in _ ⟨by omega, by omega⟩
        have HE := Lib.hid (And.intro hj (And.intro hi2 (And.intro hl hm)))
        clear hj hi2 hl hm bl bm KR5 KF5 HO HD5
        have hw5b : w5.heap.size ≠ b := by have := HM.out.held.lt; omega
        have hs9 := HM.out.s9 HL.out hjN hiN HE.out.2.2.1 HE.out.2.2.2
        go_wp2_with fail
        go_cut [] (fun wx => ∃ z : Int, 0 ≤ z ∧ z ≤ 8 ∧ Hid (Mk w b a n cap g N cap' p zs wx) ∧ wx.cell? ⟨w.heap.size + 1, 2, none⟩ = some (.int .i64 (l - m + z)))
        case first =>
          go_region_held3 (fun w' => S9 w b a n cap g N cap' p j i l m zs w')
            (first | exact (S9.mk (by assumption)).drew.s9 HL.out hjN hiN HE.out.2.2.1 HE.out.2.2.2 | exact ((S9.mk (by assumption)).alloc _).s9 HL.out hjN hiN HE.out.2.2.1 HE.out.2.2.2 | exact (S9.mk (u := World.drew _) (by assumption)).alloc _ |>.s9 HL.out hjN hiN HE.out.2.2.1 HE.out.2.2.2 | exact ((S9.mk (by assumption)).call hbl hs he).s9 HL.out hjN hiN HE.out.2.2.1 HE.out.2.2.2 | exact ((S9.mk (by assumption)).set2 hbl _).s9 HL.out hjN hiN HE.out.2.2.1 HE.out.2.2.2)
            (first | (go_at_call 12; refine (pick_of (fun z => 0 ≤ z ∧ z ≤ 8) (fun z hz => ⟨by omega, by omega⟩) w5.heap.size 6 6 (by omega) (by omega) b hw5b a n cap _ ((S9.mk (by assumption)).held.at HS.out) ?_).mono ?_; (focus (exact list_newP (fun z => 0 ≤ z ∧ z ≤ 8) w5 [0, 0, 1, 3, 4, 8] _ (by decide))); rintro e w7 ⟨z, hz, rfl, hs, he⟩; have hz0 := hz.1; have hz8 := hz.2; have hzw : IntKind.i64.wrap (l - m + z) = l - m + z := IntWalk.i64_in _ ⟨by omega, by omega⟩; obtain ⟨y2, hy2⟩ := ((S9.mk (by assumption)).call hbl hs he).box; have e2 := hy2.c2; have e3 := hy2.f2; clear hy2))
          all_goals go_wp2_with fail
          all_goals go_meet
          all_goals exact ⟨z, hz0, hz8, S9.mk (by assumption), World.cell?_setCell_same _ _ _ e2⟩
        case rest =>
          obtain ⟨z, zz0, zz8, HM2, hc2⟩ := hcut
          obtain ⟨w8, rfl⟩ : ∃ u : World, u = wc := ⟨_, rfl⟩
          obtain ⟨x2, hx2⟩ := HM2.out.box
          obtain rfl : x2 = .int .i64 (l - m + z) := Option.some.inj (hx2.c2.symm.trans hc2)
          obtain ⟨P1, P2, P3, P4, P5⟩ := HP.out z zz0 zz8
          have el : zs.getD (N - 1) 0 = l := by rw [HE.out.1, Nat.add_sub_cancel]; exact HE.out.2.2.1
          have em : zs.getD (N - p) 0 = m := by rw [HE.out.2.1, Nat.add_sub_cancel]; exact HE.out.2.2.2
          rw [el, em] at P1 P3 P4
          obtain ⟨inc, hinc⟩ : ∃ inc, l - m + z = inc := ⟨_, rfl⟩
          rw [hinc] at P1 P3 P4 hx2
          have KF8 := Lib.hid hx2
          have OK8 := Lib.hid (And.intro P1 (And.intro P2 P5))
          have hlt8 := HM2.out.held.lt
          clear hc2 hx2 P1 P2 P5 el em hinc hs9 q1 q2 q3 q4 q5 q6 q7 HE HP
          go_wp2_with fail
          refine (n_any 8 (by omega) (by omega) b a n cap _ (HM2.out.held.at HS.out)).mono ?_
          rintro e w9 ⟨r, hr, rfl, hs, he⟩
          have HM9 := Lib.hid (HM2.out.call hbl hs he.apart)
          have KF9 := Lib.hid (KF8.out.apart he.apart (by omega))
          have hr0 := hr.1
          have hr8 := hr.2
          clear hs he hr
          obtain ⟨a9, cap9, hv9, R9, X9⟩ := rowZ_of_owns HM9.out.row (by omega) (fun i hi => by have := (OK8.out.2.2 i (by rw [HL.out] at hi; exact hi)); exact ⟨by omega, by omega⟩)
          obtain ⟨rfl, rfl⟩ : some ⟨g, 0, none⟩ = a9 ∧ cap' = cap9 := by cases hv9; exact ⟨rfl, rfl⟩
          have HR9 := Lib.hid R9
          have hgb : w.heap.size + 1 + 1 ≤ g := X9 _ rfl
          clear hv9 R9 X9
          by_cases h0 : r = 0
          · have h0' : (r == 0) = true := by simpa using h0
            clear h0 hr0 hr8
            obtain ⟨c0, c1, c2, f0, f1, f2⟩ := KF9.out
            go_wp2_with (at_builtin; refine wpList_append_own _ rfl _ _ 22 rfl (w.heap.size + 1 + 1) 3 i0 (.int .i64 0) 1 8 Tryz.underlying22 hi hz0 hz1 hz2 rfl (by decide) _ _ _ rfl (HM9.out.row.alloc _) ⟨w9.heap.size, 0, none⟩ 1 1 [.int .i64 4611686018427387904] rfl rfl ?k1 ?k2 ?k3 ?k4 ?k5 ?_)
            case k1 =>
              intro j u hj
              match j, hj with
              | 0, hj => simp at hj; subst hj; simp [Addr.add]
            case k2 => intro u hu; simp at hu; subst hu; rfl
            case k3 => unfold maxLen; omega
            case k4 => omega
            case k5 => have := KF9.out.lt; simp; omega
            · intro v' w6 hown' hgrow _
              obtain ⟨g6, cap6, rfl, hg6, hg6'⟩ := hown'.form (Nat.succ_pos _)
              have hrow : ∀ j, (Value.slice (some ⟨g, 0, none⟩) N cap').ownBlock = some j → w.heap.size + 1 + 1 ≤ j := fun j hj => by cases hj; exact hgb
              have HD6 := Lib.hid ((HM9.out.held.alloc (.cells #[.int .i64 4611686018427387904] 3)).grown hbl hgrow (fun j hj => by have := hrow j hj; omega))
              have KR6 := Lib.hid ((HM9.out.res.alloc (.cells #[.int .i64 4611686018427387904] 3)).grown hgrow (fun j hj => by have := hrow j hj; omega))
              have KF6 := Lib.hid ((KF9.out.alloc (.cells #[.int .i64 4611686018427387904] 3)).grown hgrow (fun j hj => by have := hrow j hj; omega))
              have HO6 : Hid (w6.ownsRow (w.heap.size + 1 + 1) 3 1 (.slice (some ⟨g6, 0, none⟩) (N + 1) cap6) (N + 1) ((zs ++ [infV]).map (Value.int .i64))) := Lib.hid (by rw [List.map_append]; exact hown')
              clear hown' hgrow hrow c0 c1 c2 f0 f1 f2
              have OKI := Lib.hid (okCur_inf hm9 HQ.out (by rw [HL.out]; exact hN2))
              obtain ⟨a10, cap10, hv10, R10, X10⟩ := rowZ_of_owns HO6.out (by omega) (fun i hi => by
                rcases OKI.out.good.val i hi with h | h
                · exact ⟨by omega, by omega⟩
                · rw [h]; exact ⟨by decide, by decide⟩)
              obtain ⟨rfl, rfl⟩ : some ⟨g6, 0, none⟩ = a10 ∧ cap6 = cap10 := by cases hv10; exact ⟨rfl, rfl⟩
              have HR10 := Lib.hid R10
              have X6 : w.heap.size + 1 + 1 ≤ g6 := X10 _ rfl
              clear hv10 R10 X10
              obtain ⟨c0, c1, c2, f0, f1, f2⟩ := KF6.out
              obtain ⟨d0, d1, d2, e0, e1, e2⟩ := KR6.out
              have hne : ¬ w.heap.size = w.heap.size + 1 := by omega
              go_wp2_with fail
              obtain ⟨d0', d1', d2', e0', e1', e2'⟩ := (KR6.out.other hne 0 (.slice (some ⟨g6, 0, none⟩) (N + 1) cap6)).other hne 1 (.int .i64 1) |>.other hne 2 (.int .i64 0)
              exact bodyPost_ret (v := curV (some ⟨g6, 0, none⟩) (N + 1) cap6 1 0) (by simp [results, Tryz.results8, go_sem, d0', d1', d2']) rfl
                (cur_post (((HD6.out.set hbl (p := ⟨w.heap.size + 1, 0, none⟩) (Nat.le_succ _) _).set hbl (p := ⟨w.heap.size + 1, 1, none⟩) (Nat.le_succ _) _).set hbl (p := ⟨w.heap.size + 1, 2, none⟩) (Nat.le_succ _) _) HS.out hbl
                  (((HR10.out.store (fun x h _ => by cases h; show ¬ g6 = _; omega) _ _).store (fun x h _ => by cases h; show ¬ g6 = _; omega) _ _).store (fun x h _ => by cases h; show ¬ g6 = _; omega) _ _) (fun x hx => by cases hx; show w.heap.size < g6; omega) OKI.out)
          · have h0' : (r == 0) = false := by simpa using h0
            by_cases h1 : r = 1
            · have h1' : (r == 1) = true := by simpa using h1
              clear h0 h1 hr0 hr8
              obtain ⟨c0, c1, c2, f0, f1, f2⟩ := KF9.out
              go_wp2_with fail
              go_region_with (first
                | (go_at_call 11; refine (n_any 4 (by omega) (by omega) b a n cap _ (HM9.out.drew.held.at HS.out)).mono ?_; rintro e wa ⟨za, hza, rfl, hsa, hea⟩; obtain ⟨ma, rfl⟩ := Int.eq_ofNat_of_zero_le hza.1; have hma : ma ≤ 3 := (by have := hza.2; omega); have KA := Lib.hid (HM9.out.drew.call hbl hsa hea.apart); have KFA := Lib.hid (KF9.out.drew'.apart hea.apart (show ¬ w.heap.size + 1 = b by omega)); have KRA := Lib.hid (HR9.out.elseD hea (show ¬ g = b by omega)); clear hza hea; obtain ⟨i0', i1', i2', j0', j1', j2'⟩ := KFA.out)
                | (go_at_call 11; refine (n_any 2 (by omega) (by omega) b a n cap _ hsa).mono ?_; rintro e wb ⟨zb, hzb, rfl, hsb, heb⟩; obtain ⟨mb, rfl⟩ := Int.eq_ofNat_of_zero_le hzb.1; have hmb : mb ≤ 1 := (by have := hzb.2; omega); have KB := Lib.hid (KA.out.call hbl hsb heb.apart); have KFB := Lib.hid (KFA.out.apart heb.apart (show ¬ w.heap.size + 1 = b by omega)); have KRB := Lib.hid (KRA.out.else heb (show ¬ g = b by omega)); clear hzb heb; have hmw : IntKind.i64.wrap (1 + (mb : Int)) = 1 + (mb : Int) := IntWalk.i64_in _ ⟨by omega, by omega⟩; obtain ⟨k0', k1', k2', l0', l1', l2'⟩ := KFB.out)
                | (go_at_call 30; refine (longer_i (some ⟨g, 0, none⟩) N cap' zs p inc OK8.out.1.good OK8.out.2.1 _ _ ma (mb + 1) (ma + (mb + 1 - 1) * p) rfl (by omega) rfl (by omega) (by omega) (by omega) (small_mul hmb hma hp4 hN2 hm9) _ KRB.out).mono ?_; rintro e wd ⟨a3, cap3, rfl, hb3, hr3, hx3⟩; have KFD := Lib.hid (KFB.out.below hb3); have KRD := Lib.hid (KB.out.res.below hb3); have KHD := Lib.hid (KB.out.held.below hb3); have HRD := Lib.hid hr3; have HXD := Lib.hid (fun y hy => Nat.lt_of_lt_of_le KFB.out.lt (hx3 y hy)); clear hb3 hr3 hx3; obtain ⟨m0', m1', m2', n0', n1', n2'⟩ := KFD.out; obtain ⟨o0', o1', o2', p0', p1', p2'⟩ := KRD.out))
              all_goals go_wp2_with fail
              all_goals
                have hne : ¬ w.heap.size = w.heap.size + 1 := by omega
                obtain ⟨d0', d1', d2', e0', e1', e2'⟩ := ((KRD.out.other hne 0 (.slice a3 (N + (ma + mb * p)) cap3)).other hne 1 (.int .i64 ((p : Int) * ((mb : Int) + 1)))).other hne 2 (.int .i64 (inc * ((mb : Int) + 1)))
                exact bodyPost_ret (v := curV a3 (N + (ma + mb * p)) cap3 ((p : Int) * ((mb : Int) + 1)) (inc * ((mb : Int) + 1))) (by simp [results, Tryz.results8, go_sem, d0', d1', d2']) rfl
                  (cur_post2 KHD.out HS.out hbl HRD.out HXD.out (okCur_long hm9 OK8.out.1 OK8.out.2.1 (by rw [HL.out]; exact hN2) hp4 P4 (fun i hi => OK8.out.2.2 i (by rw [HL.out] at hi; exact hi)) hma (Nat.succ_pos mb) (by omega) (by rw [HL.out]; omega)))
            · have h1' : (r == 1) = false := by simpa using h1
              clear h0 h1
              obtain ⟨c0, c1, c2, f0, f1, f2⟩ := KF9.out
              obtain ⟨d0, d1, d2, e0, e1, e2⟩ := HM9.out.res
              go_wp2_with fail
              exact bodyPost_ret (v := curV (some ⟨g, 0, none⟩) N cap' p inc) (by simp [results, Tryz.results8, go_sem, d0, d1, d2]) rfl
                (cur_post HM9.out.held HS.out hbl HR9.out (fun x hx => by cases hx; show w.heap.size < g; omega) OK8.out.1)

end Go.Proofs.YtkienpbmoilheaaGreat

namespace Go.Proofs.YtkienpbmoilheaaGreat
open Go.RowKit
set_option linter.unusedSimpArgs false

theorem made_cell (w : World) (m i : Nat) (hi : i < m) : (w.alloc (.cells (madeCells #[.int .i64 0] m) 3)).cell? ⟨w.heap.size, i, none⟩ = some (.int .i64 0) := by
  rw [World.cell?_alloc_new]
  simp [madeCells, hi, Nat.mod_one]
theorem made_frozen (w : World) (m i : Nat) : (w.alloc (.cells (madeCells #[.int .i64 0] m) 3)).frozen? ⟨w.heap.size, i, none⟩ = false := World.frozen?_alloc_at _ _ _ _ rfl

theorem Cur3.drew {w : World} {b : Nat} {x0 x1 x2 : Value} (h : Cur3 w b x0 x1 x2) : Cur3 w.drew b x0 x1 x2 := ⟨h.c0, h.c1, h.c2, h.f0, h.f1, h.f2⟩

end Go.Proofs.YtkienpbmoilheaaGreat
