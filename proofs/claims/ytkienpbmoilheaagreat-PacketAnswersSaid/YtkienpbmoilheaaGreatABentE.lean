/- Contract of the reader's Bent, at a curve that lists a value. By the verifier's side. | The walk of CurveEqual. By the verifier's side. -/
import Derived.Test.YtkienpbmoilheaaGreatACurSLongKeepC
import Derived.Laws.OwnMore
import Derived.Deep.CutBlock
import Derived.Test.YtkienpbmoilheaaGreatABaseApartPickKeepS
import Derived.Test.YtkienpbmoilheaaGreatACurWToCurveGrowsW
import Derived.Test.YtkienpbmoilheaaGreatACurX
import Derived.Test.YtkienpbmoilheaaGreatARefV
namespace Go.Proofs.YtkienpbmoilheaaGreat
open Go.RowKit
set_option linter.unusedSimpArgs false

/-- A curve in which something is turned is handed back, in memory of the call's own. -/
def GivesBent (B : Int) (b : Nat) (a : Option Addr) (n cap : Nat) (w : World) (e : Ending) (w' : World) : Prop :=
  ∃ (a' : Option Addr) (n' cap' : Nat) (zs : List Int) (p inc : Int), e = .returned (curV a' n' cap' p inc) ∧ SrcAt w' b a n cap ∧ Apart b w w' ∧ RowZ w' a' n' cap' zs ∧ n' ≤ 1000 ∧ (∀ i, i < zs.length → -(B + 2) ≤ zs.getD i 0 ∧ zs.getD i 0 ≤ B + 2) ∧
    (-2000 ≤ p ∧ p ≤ 2000) ∧ (-4294967296 ≤ inc ∧ inc ≤ 4294967296) ∧ ∀ x, a' = some x → w.heap.size ≤ x.block

/-- What stands when the thing is turned. -/
structure Bz (B : Int) (w : World) (b : Nat) (a : Option Addr) (n cap Gb : Nat) (a' : Option Addr) (n' cap' : Nat) (zs : List Int) (p inc : Int) (wx : World) : Prop where
  held : Held w b a n cap wx
  box : Cur3 wx Gb (.slice a' n' cap') (.int .i64 p) (.int .i64 inc)
  res : Cur3 wx (w.heap.size + 1) (.slice none 0 0) (.int .i64 0) (.int .i64 0)
  row : RowZ wx a' n' cap' zs
  few : n' ≤ 1000
  bd : ∀ i, i < zs.length → -(B + 2) ≤ zs.getD i 0 ∧ zs.getD i 0 ≤ B + 2
  pp : -2000 ≤ p ∧ p ≤ 2000
  ii : -4294967296 ≤ inc ∧ inc ≤ 4294967296
  new : ∀ x, a' = some x → w.heap.size + 1 < x.block

/-- The same while the row is the call's own and lists as many values. -/
structure Bq (B : Int) (w : World) (b : Nat) (a : Option Addr) (n cap Gb g N cap' : Nat) (p inc : Int) (wx : World) : Prop where
  held : Held w b a n cap wx
  box : Cur3 wx Gb (.slice (some ⟨g, 0, none⟩) N cap') (.int .i64 p) (.int .i64 inc)
  res : Cur3 wx (w.heap.size + 1) (.slice none 0 0) (.int .i64 0) (.int .i64 0)
  row : ∃ zs : List Int, zs.length = N ∧ (∀ i, i < zs.length → -B ≤ zs.getD i 0 ∧ zs.getD i 0 ≤ B) ∧ wx.ownsRow (w.heap.size + 1 + 1) 3 1 (.slice (some ⟨g, 0, none⟩) N cap') N (zs.map (Value.int .i64))
  bl : b < w.heap.size
  gb : w.heap.size + 1 < Gb
  gG : ¬ g = Gb

section
variable {B : Int} {w u v : World} {b : Nat} {a : Option Addr} {n cap Gb g N cap' : Nat} {p inc : Int}
theorem Bq.call (h : Bq B w b a n cap Gb g N cap' p inc u) (hs : SrcAt v b a n cap) (ha : Apart b u v) : Bq B w b a n cap Gb g N cap' p inc v := by
  have h1 := h.bl
  have h2 := h.gb
  obtain ⟨zs, hl, hb, ho⟩ := h.row
  exact ⟨h.held.call hs ha, h.box.apart ha (by omega), h.res.apart ha (by omega), ⟨zs, hl, hb, owns_apart ho ha (by omega)⟩, h1, h2, h.gG⟩
theorem Bq.alloc (h : Bq B w b a n cap Gb g N cap' p inc u) (o : Obj) : Bq B w b a n cap Gb g N cap' p inc (u.alloc o) := by
  obtain ⟨zs, hl, hb, ho⟩ := h.row
  exact ⟨h.held.alloc o, h.box.alloc o, h.res.alloc o, ⟨zs, hl, hb, ho.alloc o⟩, h.bl, h.gb, h.gG⟩
theorem Bq.drew (h : Bq B w b a n cap Gb g N cap' p inc u) : Bq B w b a n cap Gb g N cap' p inc u.drew := by
  obtain ⟨zs, hl, hb, ho⟩ := h.row
  exact ⟨h.held.drew, h.box.drewL, h.res.drewL, ⟨zs, hl, hb, ho⟩, h.bl, h.gb, h.gG⟩
theorem Bq.glt (h : Bq B w b a n cap Gb g N cap' p inc u) : w.heap.size + 1 + 1 ≤ g := by obtain ⟨zs, hl, hb, ho⟩ := h.row; exact (ho.lt g rfl).1
theorem Bq.cell (h : Bq B w b a n cap Gb g N cap' p inc u) {i : Nat} (hi : i < N) : ∃ l : Int, (-B ≤ l ∧ l ≤ B) ∧ u.cell? ⟨g, i, none⟩ = some (.int .i64 l) ∧ u.frozen? ⟨g, i, none⟩ = false := by
  obtain ⟨zs, hl, hb, ho⟩ := h.row
  exact ⟨zs.getD i 0, hb i (by omega), owns_cell ho (by omega), ho.frozenAt i⟩
theorem getD_setB {zs : List Int} {i j : Nat} {z : Int} (hj : j < zs.length) : (zs.set i z).getD j 0 = if i = j then z else zs.getD j 0 := by
  by_cases h : i = j
  · subst h; simp [List.getD, hj]
  · simp [List.getD, h, List.getElem?_set_ne h]
theorem Bq.put (h : Bq B w b a n cap Gb g N cap' p inc u) {i : Nat} (_hi : i < N) {z : Int} (hz : -B ≤ z ∧ z ≤ B) : Bq B w b a n cap Gb g N cap' p inc (u.setCell ⟨g, i, none⟩ (.int .i64 z)) := by
  have hg := h.glt
  obtain ⟨zs, hl, hb, ho⟩ := h.row
  have h1 := h.bl
  have h2 := h.gb
  have h3 := h.gG
  refine ⟨h.held.set h1 (p := ⟨g, i, none⟩) (by show w.heap.size ≤ g; omega) _, h.box.other (fun e => h3 e.symm) _ _, h.res.other (by omega) _ _, ⟨zs.set i z, by simpa using hl, fun j hj => ?_, ?_⟩, h1, h2, h3⟩
  · rw [List.length_set] at hj
    rw [getD_setB hj]
    by_cases hij : i = j
    · rw [if_pos hij]; exact hz
    · rw [if_neg hij]; exact hb j hj
  · rw [List.map_set]; exact (ho.stored i _).1
theorem Bq.bz (h : Bq (B + 2) w b a n cap Gb g N cap' p inc u) (hB1 : 4611686018427387905 ≤ B) (hB2 : B ≤ 9223372036854775800) (hN : N ≤ 1000) (hp : -2000 ≤ p ∧ p ≤ 2000) (hi : -4294967296 ≤ inc ∧ inc ≤ 4294967296) : ∃ zs, Bz B w b a n cap Gb (some ⟨g, 0, none⟩) N cap' zs p inc u := by
  have hg := h.glt
  obtain ⟨zs, hl, hb, ho⟩ := h.row
  obtain ⟨a9, cap9, hv9, R9, X9⟩ := rowZ_of_owns ho (by omega) (fun i hi => by have := hb i hi; exact ⟨by omega, by omega⟩)
  obtain ⟨rfl, rfl⟩ : some ⟨g, 0, none⟩ = a9 ∧ cap' = cap9 := by cases hv9; exact ⟨rfl, rfl⟩
  exact ⟨zs, h.held, h.box, h.res, R9, hN, hb, hp, hi, fun x hx => by cases hx; show w.heap.size + 1 < g; omega⟩
theorem Cur3.set1 {w : World} {b : Nat} {x0 x1 x2 : Value} (h : Cur3 w b x0 x1 x2) (y1 : Value) : Cur3 (w.setCell ⟨b, 1, none⟩ y1) b x0 y1 x2 := by
  obtain ⟨c0, c1, c2, f0, f1, f2⟩ := h
  exact ⟨by go_simp, by go_simp, by go_simp, by go_simp, by go_simp, by go_simp⟩
theorem Bq.set1 (h : Bq B w b a n cap Gb g N cap' p inc u) (z : Int) : Bq B w b a n cap Gb g N cap' z inc (u.setCell ⟨Gb, 1, none⟩ (.int .i64 z)) := by
  have h1 := h.bl
  have h2 := h.gb
  obtain ⟨zs, hl, hb, ho⟩ := h.row
  exact ⟨h.held.set h1 (p := ⟨Gb, 1, none⟩) (by show w.heap.size ≤ Gb; omega) _, h.box.set1 _, h.res.other (by omega) _ _, ⟨zs, hl, hb, owns_ne (p := ⟨Gb, 1, none⟩) ho h.gG _⟩, h1, h2, h.gG⟩
theorem Bq.set2 (h : Bq B w b a n cap Gb g N cap' p inc u) (z : Int) : Bq B w b a n cap Gb g N cap' p z (u.setCell ⟨Gb, 2, none⟩ (.int .i64 z)) := by
  have h1 := h.bl
  have h2 := h.gb
  obtain ⟨zs, hl, hb, ho⟩ := h.row
  exact ⟨h.held.set h1 (p := ⟨Gb, 2, none⟩) (by show w.heap.size ≤ Gb; omega) _, h.box.set2 _, h.res.other (by omega) _ _, ⟨zs, hl, hb, owns_ne (p := ⟨Gb, 2, none⟩) ho h.gG _⟩, h1, h2, h.gG⟩

theorem Bq.weak (h : Bq B w b a n cap Gb g N cap' p inc u) : Bq (B + 2) w b a n cap Gb g N cap' p inc u := by
  obtain ⟨zs, hl, hb, ho⟩ := h.row
  exact ⟨h.held, h.box, h.res, ⟨zs, hl, fun i hi => by have := hb i hi; omega, ho⟩, h.bl, h.gb, h.gG⟩
theorem Bq.grow (h : Bq B w b a n cap Gb g N cap' p inc u) {zs : List Int} (hzl : zs.length = N) (hzb : ∀ i, i < zs.length → -B ≤ zs.getD i 0 ∧ zs.getD i 0 ≤ B) {l : Int} (hl : -B ≤ l ∧ l ≤ B) {g2 cap2 : Nat} {w1 : World}
    (hown : w1.ownsRow (w.heap.size + 1 + 1) 3 1 (.slice (some ⟨g2, 0, none⟩) (N + 1) cap2) (N + 1) (zs.map (Value.int .i64) ++ [.int .i64 l])) (hgrow : u.grownBy w1 (Value.slice (some ⟨g, 0, none⟩) N cap').ownBlock) (hat : g2 = g ∨ g2 = u.heap.size) :
    Bq B w b a n cap Gb g2 (N + 1) cap2 p inc (w1.setCell ⟨Gb, 0, none⟩ (.slice (some ⟨g2, 0, none⟩) (N + 1) cap2)) := by
  have hg := h.glt
  have h1 := h.bl
  have h2 := h.gb
  have h3 := h.gG
  have hlt := h.box.lt
  have hg2 : ¬ g2 = Gb := by
    rcases hat with e | e
    · rw [e]; exact h3
    · omega
  refine ⟨(h.held.grown h1 hgrow (fun j hj => by cases hj; show w.heap.size ≤ g; omega)).set h1 (p := ⟨Gb, 0, none⟩) (by show w.heap.size ≤ Gb; omega) _, (h.box.grownS hgrow h3).set0 _, (h.res.grown hgrow (fun j hj => by cases hj; show w.heap.size + 1 < g; omega)).other (by omega) _ _, ⟨zs ++ [l], by simp [hzl], fun i hi => ?_, ?_⟩, h1, h2, hg2⟩
  · by_cases he : i = zs.length
    · subst he; rw [getD_append_eq]; exact hl
    · have : i < zs.length := by simp at hi; omega
      rw [getD_append_lt this]; exact hzb i this
  · rw [List.map_append]; exact owns_ne (p := ⟨Gb, 0, none⟩) hown hg2 _

/-- How many elements the slice in a cell has. -/
def lenOf : Option Value → Nat
  | some (.slice _ k _) => k
  | _ => 0

/-- The first cell of the box, and what stands. -/
abbrev BqS (B : Int) (w : World) (b : Nat) (a : Option Addr) (n cap Gb g N cap' : Nat) (p inc : Int) (wx : World) : Prop :=
  wx.cell? ⟨Gb, 0, none⟩ = some (.slice (some ⟨g, 0, none⟩) N cap') ∧ Hid (Bq B w b a n cap Gb g N cap' p inc wx)
theorem bq_of (h : BqS B w b a n cap Gb g N cap' p inc u) : Bq B w b a n cap Gb g N cap' p inc u := h.2.out
theorem bq_s (h : Bq B w b a n cap Gb g N cap' p inc u) : BqS B w b a n cap Gb g N cap' p inc u := ⟨h.box.c0, h⟩
end

set_option maxRecDepth 100000 in
set_option maxHeartbeats 6400000 in
theorem bent_any (B : Int) (hB1 : 4611686018427387905 ≤ B) (hB2 : B ≤ 9223372036854775800) (b : Nat) (ra : Option Addr) (rn rc : Nat) (a : Option Addr) (n cap : Nat) (zs : List Int) (p inc : Int) (hn1 : 1 ≤ n) (hn2 : n ≤ 1000) (hbd : ∀ i, i < zs.length → -B ≤ zs.getD i 0 ∧ zs.getD i 0 ≤ B)
    (hp : -2000 ≤ p ∧ p ≤ 2000) (hinc : -4294967296 ≤ inc ∧ inc ≤ 4294967296) (w : World) (hS : SrcAt w b ra rn rc) (h : RowZ w a n cap zs) :
    Calls Tryz.prog 10 #[.pointer (some ⟨b, 0, none⟩), curV a n cap p inc] w (GivesBent B b ra rn rc w) := by
  have HS := Lib.hid hS
  have hbl := hS.lt
  have HBD := Lib.hid hbd
  have HPI := Lib.hid (And.intro hp hinc)
  clear hS hbd hp hinc
  obtain ⟨i0, hi, hz0, hz1, hz2⟩ := info_parts info_int
  have hB : Below w.heap.size w ((w.alloc (.cells #[.slice a n cap, .int .i64 p, .int .i64 inc] 24)).alloc (.cells #[.slice none 0 0, .int .i64 0, .int .i64 0] 24)) :=
    ((Below.refl _ _).alloc (Nat.le_refl _) _).alloc (by simp) _
  have HB := Lib.hid hB
  have H := Lib.hid (h.under hB)
  have hlen := h.len
  have HL := Lib.hid hlen
  obtain ⟨x, rfl, _⟩ := h.cell 0 (by omega)
  have KF := Lib.hid ((Cur3.new w (.slice (some x) n cap) (.int .i64 p) (.int .i64 inc) 24).alloc (.cells #[.slice none 0 0, .int .i64 0, .int .i64 0] 24))
  have KR := Lib.hid (Cur3.new2 w (.slice none 0 0) (.int .i64 0) (.int .i64 0) 24 (.cells #[.slice (some x) n cap, .int .i64 p, .int .i64 inc] 24))
  have hsz : ((w.alloc (.cells #[.slice (some x) n cap, .int .i64 p, .int .i64 inc] 24)).alloc (.cells #[.slice none 0 0, .int .i64 0, .int .i64 0] 24)).heap.size = w.heap.size + 1 + 1 := by simp
  have HSZ := Lib.hid hsz
  clear h hB hlen hsz
  go_enter Tryz.func10, Tryz.ntmps10
  go_wp2_with fail
  generalize (w.alloc (.cells #[.slice (some x) n cap, .int .i64 p, .int .i64 inc] 24)).alloc (.cells #[.slice none 0 0, .int .i64 0, .int .i64 0] 24) = W at HB H KF KR HSZ ⊢
  obtain ⟨c0, c1, c2, f0, f1, f2⟩ := KF.out
  have hNW : w.heap.size + 1 + 1 ≤ W.heap.size := Nat.le_of_eq HSZ.out.symm
  have hN0 := Lib.hid hNW
  have hN1' := Lib.hid (Nat.le_succ_of_le hNW)
  have hN01 := Lib.hid (show w.heap.size + 1 + 1 ≤ (W.alloc (.cells #[] 3)).heap.size by simp; omega)
  have hbN : w.heap.size < w.heap.size + 1 + 1 := by omega
  have HK0 := Lib.hid (kept_drew (b := w.heap.size) (N := w.heap.size + 1 + 1) (W := W) ⟨c0, c1, c2, Below.refl _ _⟩)
  have HkD := Lib.hid (fun u (h : Kept3 w.heap.size (w.heap.size + 1 + 1) W (.slice (some x) n cap) (.int .i64 p) (.int .i64 inc) u) => kept_drew h)
  have HkA := Lib.hid (fun u o (h : Kept3 w.heap.size (w.heap.size + 1 + 1) W (.slice (some x) n cap) (.int .i64 p) (.int .i64 inc) u) => kept_alloc hbN hNW h o)
  have HkAD := Lib.hid (fun (u : World) o (h : Kept3 w.heap.size (w.heap.size + 1 + 1) W (.slice (some x) n cap) (.int .i64 p) (.int .i64 inc) u.drew) => kept_allocD hbN hNW h o)
  have HkG := Lib.hid (fun u v (r m c : Nat) (h : Kept3 w.heap.size (w.heap.size + 1 + 1) W (.slice (some x) n cap) (.int .i64 p) (.int .i64 inc) u) (hg : u.grownBy v (Value.slice (some ⟨r, 0, none⟩) m c).ownBlock) (hr : w.heap.size + 1 + 1 ≤ r) => kept_grown hbN hNW h hg (fun j hj => by cases hj; exact hr))
  have Hk3 := Lib.hid (fun u (r : Nat) y0 y1 y2 (h : Kept3 w.heap.size (w.heap.size + 1 + 1) W (.slice (some x) n cap) (.int .i64 p) (.int .i64 inc) u) (hr : w.heap.size + 1 + 1 ≤ r) => kept_set hbN (kept_set hbN (kept_set (p := ⟨r, 0, none⟩) hbN h hr y0) (p := ⟨r, 1, none⟩) hr y1) (p := ⟨r, 2, none⟩) hr y2)
  have HkS := Lib.hid (fun (u : World) o o' (h : Kept3 w.heap.size (w.heap.size + 1 + 1) W (.slice (some x) n cap) (.int .i64 p) (.int .i64 inc) (u.alloc o)) hu => kept_swap hbN h o' hu)
  have HkSD := Lib.hid (fun (u : World) o o' (h : Kept3 w.heap.size (w.heap.size + 1 + 1) W (.slice (some x) n cap) (.int .i64 p) (.int .i64 inc) (u.alloc o).drew) hu => kept_swapD hbN h o' hu)
  have hO1 := Lib.hid (show (W.alloc (.cells #[] 3)).drew.ownsRow (w.heap.size + 1 + 1) 3 1 (.slice (some ⟨W.heap.size, 0, none⟩) 0 0) 0 [] from World.ownsRow_made W #[] 0 hNW (Nat.zero_le _) rfl)
  have hO2 := Lib.hid (show ∀ o, ((W.alloc (.cells #[] 3)).alloc o).drew.ownsRow (w.heap.size + 1 + 1) 3 1 (.slice (some ⟨W.heap.size, 0, none⟩) 0 0) 0 [] from fun o => (World.ownsRow_made (e := 3) (size := 1) W #[] 0 hNW (Nat.zero_le _) rfl).alloc o)
  have hO3 := Lib.hid (show ∀ o, ((W.alloc o).alloc (.cells #[] 3)).drew.ownsRow (w.heap.size + 1 + 1) 3 1 (.slice (some ⟨W.heap.size + 1, 0, none⟩) 0 0) 0 [] from fun o => by
    have := World.ownsRow_made (e := 3) (size := 1) (W.alloc o) #[] 0 (show w.heap.size + 1 + 1 ≤ (W.alloc o).heap.size by simp; omega) (Nat.zero_le _) rfl
    rw [show (W.alloc o).heap.size = W.heap.size + 1 by simp] at this
    exact this)
  clear hNW
  go_upto_region 2 with fail
  go_cut [5] (fun s5 wx => ∃ Gb g cap', s5 = .pointer (some ⟨Gb, 0, none⟩) ∧ w.heap.size + 1 < Gb ∧ ¬ g = Gb ∧ Hid (Cur3 wx Gb (.slice (some ⟨g, 0, none⟩) n cap') (.int .i64 p) (.int .i64 inc)) ∧
    Hid (wx.ownsRow (w.heap.size + 1 + 1) 3 1 (.slice (some ⟨g, 0, none⟩) n cap') n (zs.map (Value.int .i64))) ∧ Hid (Below (w.heap.size + 1 + 1) W wx))
  case first =>
    go_region_held3 (fun w' => w'.cell? ⟨w.heap.size, 0, none⟩ = some (.slice (some x) n cap) ∧ w'.cell? ⟨w.heap.size, 1, none⟩ = some (.int .i64 p) ∧ w'.cell? ⟨w.heap.size, 2, none⟩ = some (.int .i64 inc) ∧ Hid (Below (w.heap.size + 1 + 1) W w'))
      (first | with_reducible exact HK0.out | with_reducible exact HkD.out _ (by assumption) | with_reducible exact HkA.out _ _ (by assumption) | with_reducible exact HkAD.out _ _ (by assumption) | with_reducible exact HkG.out _ _ _ _ _ (by assumption) hgrow hN0.out | with_reducible exact HkG.out _ _ _ _ _ (by assumption) hgrow hN1'.out | with_reducible exact Hk3.out _ _ _ _ _ (by assumption) hN0.out | with_reducible exact Hk3.out _ _ _ _ _ (by assumption) hN1'.out | with_reducible exact HkS.out _ _ _ (by assumption) (hgsz.out) | with_reducible exact HkSD.out _ _ _ (by assumption) hN0.out | with_reducible exact HkSD.out _ _ _ (by assumption) hN01.out)
      ((refine step_append_lies _ (by rfl) _ _ _ (by rfl) (w.heap.size + 1 + 1) 3 i0 _ 1 8 Tryz.underlying22 hi hz0 hz1 hz2 rfl (by decide) _ 0 [] (by rfl) (by first | exact hO1.out | exact hO2.out _ | exact hO3.out _) x n cap (zs.map (Value.int .i64)) (by rfl) (by rw [List.length_map, Nat.mul_one]; exact HL.out) (newsOf H.out HSZ.out (by assumption)) (one_ints zs) (by omega) (by unfold maxLen; omega) (by omega) (baseOf HSZ.out (by assumption)) _ rfl ?_; intro g cap' w1 hown1 hgrow hat hlt; obtain ⟨hgc, hgf⟩ := grownRules hgrow; have hat2 := Lib.hid (hatOf hat); have hgsz := Lib.hid (Nat.le_trans (baseOf HSZ.out (by assumption)) hgrow.size)))
    all_goals go_wp2_with fail
    all_goals go_meet
    all_goals (try simp only [Nat.zero_add, List.nil_append] at hown1)
    all_goals first
      | exact ⟨w1.heap.size, g, cap', rfl, by have := hgsz.out; omega, by omega, Cur3.new _ _ _ _ _, hown1.alloc _, kept_out (by assumption)⟩
      | exact ⟨W.heap.size + 1, g, cap', rfl, by have := hN0.out; omega, by have := hat2.out; simp at this; omega, (Cur3.grownS (Cur3.drewL (Cur3.new2 W _ _ _ _ _)) hgrow (by omega)).set _ _ _, owns_set3 hown1 (by have := hat2.out; simp at this; omega) _ _ _, kept_out (by assumption)⟩
      | exact ⟨W.heap.size, g, cap', rfl, by have := hN0.out; omega, by have := hat2.out; simp at this; omega, (Cur3.grownS (Cur3.drewL ((Cur3.new W _ _ _ _).alloc _)) hgrow (by omega)).set _ _ _, owns_set3 hown1 (by have := hat2.out; simp at this; omega) _ _ _, kept_out (by assumption)⟩
  case rest =>
    obtain ⟨Gb, g, cap', rfl, hGb, hgG, KG, HO, HB0⟩ := hcut
    obtain ⟨w0, rfl⟩ : ∃ u : World, u = wc := ⟨_, rfl⟩
    have HBW : Hid (Below W.heap.size W w0) := Lib.hid (by rw [HSZ.out]; exact HB0.out)
    have Q0 : Hid (Bq B w b ra rn rc Gb g n cap' p inc w0) := Lib.hid ⟨((Held.start HS.out).below HB.out).below HBW.out, KG.out, KR.out.below HBW.out, ⟨zs, HL.out, fun i hi => by have := HBD.out i hi; omega, HO.out⟩, hbl, hGb, hgG⟩
    have hn0 : ((n : Int) == 0) = false := by simp; omega
    clear KG HO HB0 HBW
    obtain ⟨c0, c1, c2, f0, f1, f2⟩ := Q0.out.box
    go_wp2_with fail
    clear c0 c1 c2 f0 f1 f2
    refine (n_any (n : Int) (by omega) (by omega) b ra rn rc _ (Q0.out.held.at HS.out)).mono ?_
    rintro e w1 ⟨zi, hzi, rfl, hs, he⟩
    obtain ⟨i, rfl⟩ := Int.eq_ofNat_of_zero_le hzi.1
    have hin : i < n := by omega
    have q1 : (0 : Int) ≤ (i : Int) := by omega
    have q2 : (i : Int) < (n : Int) := by omega
    have Q1 := Lib.hid (Q0.out.call hs he.apart)
    clear hs he hzi Q0
    go_wp2_with fail
    refine (n_any 6 (by omega) (by omega) b ra rn rc _ (Q1.out.held.at HS.out)).mono ?_
    rintro e w2 ⟨r, hr, rfl, hs, he⟩
    have Q2 := Lib.hid (Q1.out.call hs he.apart)
    obtain ⟨r0, r1⟩ := hr
    clear hs he Q1
    obtain ⟨hp1, hp2⟩ := HPI.out.1
    obtain ⟨hi1, hi2⟩ := HPI.out.2
    go_upto_block 0 with fail
    go_cut [] (fun wx => ∃ (a' : Option Addr) (n' cap' : Nat) (zs : List Int) (p inc : Int), Hid (Bz B w b ra rn rc Gb a' n' cap' zs p inc wx))
    case first =>
      have hr6 : r = 0 ∨ r = 1 ∨ r = 2 ∨ r = 3 ∨ r = 4 ∨ r = 5 := by omega
      clear r0 r1
      rcases hr6 with rfl | rfl | rfl | rfl | rfl | rfl
      · go_wp2_with fail
        refine wp_region_keeps (fun w' => BqS B w b ra rn rc Gb g n cap' p inc w') 6 2 (by kernel_rfl) (by kernel_rfl) (bq_s Q2.out.drew) (fun hHeld => ?_)
        refine wpAnyK_take (i := 0) (v := ?_) rfl (by kernel_rfl) (fun _ _ _ h => h) (Or.inl ⟨by rfl, ?_⟩) (by assumption) ?_
        rotate_left
        · (intro w hSw; (try dsimp only at hSw); go_simp; try with_reducible rfl)
        try simp only [Act.put, List.setIfInBounds_toArray, List.set_cons_zero, List.set_cons_succ]
        refine wpAnyK_take (i := 1) (v := ?_) rfl (by kernel_rfl) (fun _ _ _ h => h) (Or.inl ⟨by rfl, ?_⟩) (by assumption) ?_
        rotate_left
        · (intro w hSw; (try dsimp only at hSw); go_simp; try with_reducible rfl)
        try simp only [Act.put, List.setIfInBounds_toArray, List.set_cons_zero, List.set_cons_succ]
        refine wpAnyK_take (i := 2) (v := ?_) rfl (by kernel_rfl) (fun _ _ _ h => h) (Or.inl ⟨by rfl, ?_⟩) (by assumption) ?_
        rotate_left
        · (intro w hSw; (try dsimp only at hSw); go_simp; try with_reducible rfl)
        try simp only [Act.put, List.setIfInBounds_toArray, List.set_cons_zero, List.set_cons_succ]
        refine wpAnyK_take (i := 3) (v := ?_) rfl (by kernel_rfl) (fun _ _ _ h => h) (Or.inl ⟨by rfl, ?_⟩) (by assumption) ?_
        rotate_left
        · (intro w hSw; (try dsimp only at hSw); go_simp; try with_reducible rfl)
        try simp only [Act.put, List.setIfInBounds_toArray, List.set_cons_zero, List.set_cons_succ]
        refine wpAnyK_step (i := 4) rfl (by kernel_rfl) (fun K hK => ?_)
        go_simp
        have Q3 := Lib.hid (Q2.out.alloc (.cells #[.int .i64 (-1), .int .i64 0, .int .i64 1073741824, .int .i64 1073741825, .int .i64 4611686018427387904, .int .i64 4611686018427387905] 3)).drew
        refine hK.out _ _ (bq_s Q3.out) (fun hHeld2 => ?_)
        clear hK K hHeld
        try simp only [Act.put, List.setIfInBounds_toArray, List.set_cons_zero, List.set_cons_succ]
        refine wpAnyK_step (i := 5) rfl (by kernel_rfl) (fun K hK => ?_)
        go_simp
        refine (pick_of (fun z => -(B + 2) ≤ z ∧ z ≤ B + 2) (fun z hz => ⟨by omega, by omega⟩) w2.heap.size 6 6 (by omega) (by omega) b (by have := Q2.out.held.lt; omega) ra rn rc _ (Q3.out.held.at HS.out) (list_newP (fun z => -(B + 2) ≤ z ∧ z ≤ B + 2) w2 [-1, 0, 1073741824, 1073741825, 4611686018427387904, 4611686018427387905] 3 (fun z hz => by simp at hz; omega))).mono ?_
        rintro e w3 ⟨z, hz, rfl, hs, he⟩
        have Q4 := Lib.hid ((Q3.out.call hs he).weak)
        refine hK.out _ _ (bq_s (Q3.out.call hs he)) (fun hHeld3 => ?_)
        clear hs he
        clear hK K hHeld2 hHeld3
        refine wpAnyK_done (by kernel_rfl) ?_
        simp only [List.drop_succ_cons, List.drop_zero]
        obtain ⟨l, _, hcl, hfz⟩ := Q4.out.cell hin
        go_wp2_with fail
        go_meet
        obtain ⟨zs', hz'⟩ := (Q4.out.put hin hz).bz hB1 hB2 hn2 ⟨hp1, hp2⟩ ⟨hi1, hi2⟩
        exact ⟨_, _, _, zs', p, inc, hz'⟩
      · obtain ⟨c0, c1, c2, f0, f1, f2⟩ := Q2.out.box
        go_wp2_with fail
        clear c0 c1 c2 f0 f1 f2
        have Q3 := Lib.hid (Q2.out.alloc (.cells #[.int .i64 (-1), .int .i64 0, .int .i64 1, .int .i64 n, .int .i64 ((n : Int) + 1), .int .i64 121] 3))
        refine (pick_of (fun z => -2000 ≤ z ∧ z ≤ 2000) (fun z hz => ⟨by omega, by omega⟩) w2.heap.size 6 6 (by omega) (by omega) b (by have := Q2.out.held.lt; omega) ra rn rc _ (Q3.out.held.at HS.out) (list_newP (fun z => -2000 ≤ z ∧ z ≤ 2000) w2 [-1, 0, 1, (n : Int), (n : Int) + 1, 121] 3 (fun z hz => by simp at hz; omega))).mono ?_
        rintro e w3 ⟨z, hz, rfl, hs, he⟩
        have Q4 := Lib.hid ((Q3.out.call hs he).weak)
        clear hs he
        obtain ⟨c0, c1, c2, f0, f1, f2⟩ := Q4.out.box
        go_wp2_with fail
        go_meet
        obtain ⟨zs', hz'⟩ := (Q4.out.set1 z).bz hB1 hB2 hn2 hz ⟨hi1, hi2⟩
        exact ⟨_, _, _, zs', z, inc, hz'⟩
      · obtain ⟨c0, c1, c2, f0, f1, f2⟩ := Q2.out.box
        go_wp2_with fail
        clear c0 c1 c2 f0 f1 f2
        have Q3 := Lib.hid (Q2.out.alloc (.cells #[.int .i64 (-1), .int .i64 0, .int .i64 1073741824, .int .i64 1073741825] 3))
        refine (pick_of (fun z => -4294967296 ≤ z ∧ z ≤ 4294967296) (fun z hz => ⟨by omega, by omega⟩) w2.heap.size 4 4 (by omega) (by omega) b (by have := Q2.out.held.lt; omega) ra rn rc _ (Q3.out.held.at HS.out) (list_newP (fun z => -4294967296 ≤ z ∧ z ≤ 4294967296) w2 [-1, 0, 1073741824, 1073741825] 3 (fun z hz => by simp at hz; omega))).mono ?_
        rintro e w3 ⟨z, hz, rfl, hs, he⟩
        have Q4 := Lib.hid ((Q3.out.call hs he).weak)
        clear hs he
        obtain ⟨c0, c1, c2, f0, f1, f2⟩ := Q4.out.box
        go_wp2_with fail
        go_meet
        obtain ⟨zs', hz'⟩ := (Q4.out.set2 z).bz hB1 hB2 hn2 ⟨hp1, hp2⟩ hz
        exact ⟨_, _, _, zs', p, z, hz'⟩
      · obtain ⟨c0, c1, c2, f0, f1, f2⟩ := Q2.out.box
        obtain ⟨zs', hz'⟩ := Q2.out.weak.bz hB1 hB2 hn2 ⟨hp1, hp2⟩ ⟨hi1, hi2⟩
        have HZ := Lib.hid hz'
        have hcap : n ≤ cap' := hz'.row.le
        have hcap2 := hz'.row.cm
        have q3 : (i : Int) ≤ (cap' : Int) := by omega
        clear hz'
        go_wp2_with fail
        go_meet
        refine ⟨some ⟨g, 0, none⟩, i, cap', zs'.take i, p, inc, ?_⟩
        have hbz := HZ.out
        exact ⟨hbz.held.set hbl (p := ⟨Gb, 0, none⟩) (by show w.heap.size ≤ Gb; omega) _, hbz.box.set0 _, hbz.res.other (by omega) _ _, (hbz.row.take i (by omega)).store (fun x hx _ => by cases hx; exact hgG) _ _, by omega, fun m hm => by rw [List.length_take] at hm; rw [getD_take (by omega)]; exact hbz.bd m (by omega), ⟨hp1, hp2⟩, ⟨hi1, hi2⟩, hbz.new⟩
      · obtain ⟨l, ⟨hl1, hl2⟩, hcl, hfz⟩ := Q2.out.cell hin
        have KS := Lib.hid (fun (u : World) (h : Bq B w b ra rn rc Gb g n cap' p inc u) (hc : u.cell? ⟨g, i, none⟩ = some (.int .i64 l)) => (show u.cell? ⟨Gb, 0, none⟩ = some (.slice (some ⟨g, 0, none⟩) n cap') ∧ u.cell? ⟨g, i, none⟩ = some (.int .i64 l) ∧ Hid (Bq B w b ra rn rc Gb g n cap' p inc u) from ⟨h.box.c0, hc, h⟩))
        go_wp2_with fail
        refine wp_region_keeps (fun u => u.cell? ⟨Gb, 0, none⟩ = some (.slice (some ⟨g, 0, none⟩) n cap') ∧ u.cell? ⟨g, i, none⟩ = some (.int .i64 l) ∧ Hid (Bq B w b ra rn rc Gb g n cap' p inc u)) 9 2 (by kernel_rfl) (by kernel_rfl) (KS.out _ Q2.out.drew hcl) (fun hHeld => ?_)
        refine wpAnyK_take (i := 0) (v := ?_) rfl (by kernel_rfl) (fun _ _ _ h => h) (Or.inl ⟨by rfl, ?_⟩) (by assumption) ?_
        rotate_left
        · (intro w hSw; (try dsimp only at hSw); go_simp; try with_reducible rfl)
        try simp only [Act.put, List.setIfInBounds_toArray, List.set_cons_zero, List.set_cons_succ]
        refine wpAnyK_take (i := 1) (v := ?_) rfl (by kernel_rfl) (fun _ _ _ h => h) (Or.inl ⟨by rfl, ?_⟩) (by assumption) ?_
        rotate_left
        · (intro w hSw; (try dsimp only at hSw); go_simp; try with_reducible rfl)
        try simp only [Act.put, List.setIfInBounds_toArray, List.set_cons_zero, List.set_cons_succ]
        refine wpAnyK_take (i := 2) (v := ?_) rfl (by kernel_rfl) (fun _ _ _ h => h) (Or.inl ⟨by rfl, ?_⟩) (by assumption) ?_
        rotate_left
        · (intro w hSw; (try dsimp only at hSw); go_simp; try with_reducible rfl)
        try simp only [Act.put, List.setIfInBounds_toArray, List.set_cons_zero, List.set_cons_succ]
        refine wpAnyK_take (i := 3) (v := ?_) rfl (by kernel_rfl) (fun _ _ _ h => h) (Or.inl ⟨by rfl, ?_⟩) (by assumption) ?_
        rotate_left
        · (intro w hSw; (try dsimp only at hSw); go_simp; try with_reducible rfl)
        try simp only [Act.put, List.setIfInBounds_toArray, List.set_cons_zero, List.set_cons_succ]
        refine wpAnyK_take (i := 4) (v := ?_) rfl (by kernel_rfl) (fun _ _ _ h => h) (Or.inl ⟨by rfl, ?_⟩) (by assumption) ?_
        rotate_left
        · (intro w hSw; (try dsimp only at hSw); go_simp; try with_reducible rfl)
        try simp only [Act.put, List.setIfInBounds_toArray, List.set_cons_zero, List.set_cons_succ]
        refine wpAnyK_take (i := 5) (v := ?_) rfl (by kernel_rfl) (fun _ _ _ h => h) (Or.inl ⟨by rfl, ?_⟩) (by assumption) ?_
        rotate_left
        · (intro w hSw; (try dsimp only at hSw); go_simp; try with_reducible rfl)
        try simp only [Act.put, List.setIfInBounds_toArray, List.set_cons_zero, List.set_cons_succ]
        refine wpAnyK_step (i := 6) rfl (by kernel_rfl) (fun K hK => ?_)
        go_simp
        refine (n_any 5 (by omega) (by omega) b ra rn rc _ (Q2.out.drew.held.at HS.out)).mono ?_
        rintro e w3 ⟨z, ⟨hm0, hm1⟩, rfl, hs, he⟩
        have Q4 := Lib.hid (Q2.out.drew.call hs he.apart)
        have hgb2 : ¬ g = b := by have := Q2.out.glt; omega
        have hcl3 : w3.cell? ⟨g, i, none⟩ = some (.int .i64 l) := (he.cell (p := ⟨g, i, none⟩) hgb2).trans hcl
        have s1 : IntKind.i64.wrap (z - 2) = z - 2 := IntWalk.i64_in _ ⟨by omega, by omega⟩
        have s2 : IntKind.i64.wrap (l + (z - 2)) = l + (z - 2) := IntWalk.i64_in _ ⟨by omega, by omega⟩
        clear hs he hcl hfz
        refine hK.out _ _ (KS.out _ Q4.out hcl3) (fun hHeld2 => ?_)
        clear hK K hHeld
        try simp only [Act.put, List.setIfInBounds_toArray, List.set_cons_zero, List.set_cons_succ]
        refine wpAnyK_take (i := 7) (v := ?_) rfl (by kernel_rfl) (fun _ _ _ h => h) (Or.inl ⟨by rfl, ?_⟩) (by assumption) ?_
        rotate_left
        · (intro w hSw; (try dsimp only at hSw); go_simp; try with_reducible rfl)
        try simp only [Act.put, List.setIfInBounds_toArray, List.set_cons_zero, List.set_cons_succ]
        refine wpAnyK_take (i := 8) (v := ?_) rfl (by kernel_rfl) (fun _ _ _ h => h) (Or.inl ⟨by rfl, ?_⟩) (by assumption) ?_
        rotate_left
        · (intro w hSw; (try dsimp only at hSw); go_simp; try with_reducible rfl)
        try simp only [Act.put, List.setIfInBounds_toArray, List.set_cons_zero, List.set_cons_succ]
        refine wpAnyK_done (by kernel_rfl) ?_
        simp only [List.drop_succ_cons, List.drop_zero]
        have Q5 := Lib.hid Q4.out.weak
        obtain ⟨l', _, _, hfz⟩ := Q5.out.cell hin
        clear hHeld2
        go_wp2_with fail
        go_meet
        obtain ⟨zs', hz'⟩ := (Q5.out.put hin (z := l + (z - 2)) ⟨by omega, by omega⟩).bz hB1 hB2 hn2 ⟨hp1, hp2⟩ ⟨hi1, hi2⟩
        exact ⟨_, _, _, zs', p, inc, hz'⟩
      · have Q3 := Lib.hid Q2.out.weak
        clear q1 q2 hin Q2
        go_wp2_with fail
        go_loopw [] (fun wx => ∃ N g1 cap1 : Nat, 1 ≤ N ∧ N ≤ 1000 ∧ Hid (Bq (B + 2) w b ra rn rc Gb g1 N cap1 p inc wx)) (fun wx => 1000 - lenOf (wx.cell? ⟨Gb, 0, none⟩))
        case atStart => exact ⟨n, g, cap', hn1, hn2, Q3⟩
        case round =>
          obtain ⟨N, g1, cap1, hN1, hN2, QL⟩ := hrel
          obtain ⟨w5, rfl⟩ : ∃ u : World, u = wr := ⟨_, rfl⟩
          have hlen : lenOf (w5.cell? ⟨Gb, 0, none⟩) = N := by rw [QL.out.box.c0]; rfl
          have HLN := Lib.hid hlen
          clear hlen
          go_wp2_with fail
          go_region_held3 (fun w' => w'.cell? ⟨Gb, 0, none⟩ = some (.slice (some ⟨g1, 0, none⟩) N cap1) ∧ Hid (Bq (B + 2) w b ra rn rc Gb g1 N cap1 p inc w'))
            (first | exact bq_s QL.out.drew | exact bq_s ((bq_of (by assumption)).call hs he.apart))
            (first | (go_at_call 11; refine (n_any 2 (by omega) (by omega) b ra rn rc _ ((bq_of (by assumption)).held.at HS.out)).mono ?_; rintro e w6 ⟨z, ⟨hm0, hm1⟩, rfl, hs, he⟩; obtain ⟨m, rfl⟩ := Int.eq_ofNat_of_zero_le hm0; have hmw : IntKind.i64.wrap (400 + (m : Int)) = 400 + (m : Int) := IntWalk.i64_in _ ⟨by omega, by omega⟩))
          have hQ6 : BqS (B + 2) w b ra rn rc Gb g1 N cap1 p inc w6 := by assumption
          have Q6 := Lib.hid (bq_of hQ6)
          clear hs he hQ6
          by_cases hlt : N < 400 + m
          · have hlt2 : (N : Int) < 400 + (m : Int) := by omega
            obtain ⟨zs2, hzl, hzb, hzo⟩ := Q6.out.row
            obtain ⟨j, hj⟩ : ∃ j, N = j + 1 := ⟨N - 1, by omega⟩
            obtain ⟨l, hl⟩ : ∃ l, zs2.getD j 0 = l := ⟨_, rfl⟩
            have hlb := hzb j (by omega)
            rw [hl] at hlb
            have hcj : w6.cell? ⟨g1, j, none⟩ = some (.int .i64 l) := by rw [← hl]; exact owns_cell hzo (by omega)
            have HZ := Lib.hid (And.intro hzl (And.intro hzb hlb))
            have HO6 := Lib.hid hzo
            have s1 : (N : Int) - 1 = (j : Int) := by omega
            have s2 : IntKind.i64.wrap ((N : Int) - 1) = (j : Int) := by rw [s1]; exact IntWalk.i64_in _ ⟨by omega, by omega⟩
            have s3 : (0 : Int) ≤ (j : Int) := by omega
            have s5 : IntKind.i64.wrap (j : Int) = (j : Int) := IntWalk.i64_in _ ⟨by omega, by omega⟩
            have s4 : (j : Int) < (N : Int) := by omega
            have hlw := Lib.hid (And.intro hlb.1 hlb.2)
            have c0 := Q6.out.box.c0
            clear hzl hzb hzo hj hl hlb
            go_wp2_with fail
            refine wp_region_keeps (fun u => u.cell? ⟨Gb, 0, none⟩ = some (.slice (some ⟨g1, 0, none⟩) N cap1) ∧ u.cell? ⟨g1, j, none⟩ = some (.int .i64 l)) 11 3 (by kernel_rfl) (by kernel_rfl) ⟨c0, hcj⟩ (fun hHeld => ?_)
            refine wpAnyK_take (i := 0) (v := ?_) rfl (by kernel_rfl) (fun _ _ _ h => h) (Or.inl ⟨by rfl, ?_⟩) (by assumption) ?_
            rotate_left
            · (intro w hSw; (try dsimp only at hSw); go_simp; try with_reducible rfl)
            try simp only [Act.put, List.setIfInBounds_toArray, List.set_cons_zero, List.set_cons_succ]
            refine wpAnyK_take (i := 1) (v := ?_) rfl (by kernel_rfl) (fun _ _ _ h => h) (Or.inl ⟨by rfl, ?_⟩) (by assumption) ?_
            rotate_left
            · (intro w hSw; (try dsimp only at hSw); go_simp; try with_reducible rfl)
            try simp only [Act.put, List.setIfInBounds_toArray, List.set_cons_zero, List.set_cons_succ]
            refine wpAnyK_take (i := 2) (v := ?_) rfl (by kernel_rfl) (fun _ _ _ h => h) (Or.inl ⟨by rfl, ?_⟩) (by assumption) ?_
            rotate_left
            · (intro w hSw; (try dsimp only at hSw); go_simp; try with_reducible rfl)
            try simp only [Act.put, List.setIfInBounds_toArray, List.set_cons_zero, List.set_cons_succ]
            refine wpAnyK_take (i := 3) (v := ?_) rfl (by kernel_rfl) (fun _ _ _ h => h) (Or.inl ⟨by rfl, ?_⟩) (by assumption) ?_
            rotate_left
            · (intro w hSw; (try dsimp only at hSw); go_simp; try with_reducible rfl)
            try simp only [Act.put, List.setIfInBounds_toArray, List.set_cons_zero, List.set_cons_succ]
            refine wpAnyK_take (i := 4) (v := ?_) rfl (by kernel_rfl) (fun _ _ _ h => h) (Or.inl ⟨by rfl, ?_⟩) (by assumption) ?_
            rotate_left
            · (intro w hSw; (try dsimp only at hSw); go_simp; try with_reducible rfl)
            try simp only [Act.put, List.setIfInBounds_toArray, List.set_cons_zero, List.set_cons_succ]
            refine wpAnyK_take (i := 5) (v := ?_) rfl (by kernel_rfl) (fun _ _ _ h => h) (Or.inl ⟨by rfl, ?_⟩) (by assumption) ?_
            rotate_left
            · (intro w hSw; (try dsimp only at hSw); go_simp; try with_reducible rfl)
            try simp only [Act.put, List.setIfInBounds_toArray, List.set_cons_zero, List.set_cons_succ]
            refine wpAnyK_take (i := 6) (v := ?_) rfl (by kernel_rfl) (fun _ _ _ h => h) (Or.inl ⟨by rfl, ?_⟩) (by assumption) ?_
            rotate_left
            · (intro w hSw; (try dsimp only at hSw); go_simp; try with_reducible rfl)
            try simp only [Act.put, List.setIfInBounds_toArray, List.set_cons_zero, List.set_cons_succ]
            refine wpAnyK_take (i := 7) (v := ?_) rfl (by kernel_rfl) (fun _ _ _ h => h) (Or.inl ⟨by rfl, ?_⟩) (by assumption) ?_
            rotate_left
            · (intro w hSw; (try dsimp only at hSw); go_simp; try with_reducible rfl)
            try simp only [Act.put, List.setIfInBounds_toArray, List.set_cons_zero, List.set_cons_succ]
            refine wpAnyK_take (i := 8) (v := ?_) rfl (by kernel_rfl) (fun _ _ _ h => h) (Or.inl ⟨by rfl, ?_⟩) (by assumption) ?_
            rotate_left
            · (intro w hSw; (try dsimp only at hSw); go_simp; try with_reducible rfl)
            try simp only [Act.put, List.setIfInBounds_toArray, List.set_cons_zero, List.set_cons_succ]
            refine wpAnyK_take (i := 9) (v := ?_) rfl (by kernel_rfl) (fun _ _ _ h => h) (Or.inl ⟨by rfl, ?_⟩) (by assumption) ?_
            rotate_left
            · (intro w hSw; (try dsimp only at hSw); go_simp; try with_reducible rfl)
            try simp only [Act.put, List.setIfInBounds_toArray, List.set_cons_zero, List.set_cons_succ]
            refine wpAnyK_step (i := 10) rfl (by kernel_rfl) (fun K hK => ?_)
            go_simp
            refine hK.out _ _ ⟨(((Below.refl _ _).alloc (Nat.le_refl _) _).cell (p := ⟨Gb, 0, none⟩) (lt_of_cell c0)).trans c0, (((Below.refl _ _).alloc (Nat.le_refl _) _).cell (p := ⟨g1, j, none⟩) (lt_of_cell hcj)).trans hcj⟩ (fun hHeld2 => ?_)
            clear hK K hHeld
            try simp only [Act.put, List.setIfInBounds_toArray, List.set_cons_zero, List.set_cons_succ]
            refine wpAnyK_done (by kernel_rfl) ?_
            simp only [List.drop_succ_cons, List.drop_zero]
            have HO7 : Hid ((w6.alloc (.cells #[.int .i64 l] 3)).drew.ownsRow (w.heap.size + 1 + 1) 3 1 (.slice (some ⟨g1, 0, none⟩) N cap1) N (zs2.map (Value.int .i64))) := Lib.hid (HO6.out.alloc _)
            have HN7 : Hid (∀ j u, [Value.int .i64 l][j]? = some u → (w6.alloc (.cells #[.int .i64 l] 3)).drew.cell? ((⟨w6.heap.size, 0, none⟩ : Addr).add j) = some u) := Lib.hid (World.news_of_block (cs := #[.int .i64 l]) (t := 3) (fr := (0, 0)) (heap_alloc_new w6 _))
            have Q7 := Lib.hid (Q6.out.alloc (.cells #[.int .i64 l] 3)).drew
            clear hHeld2 c0 hcj
            generalize (w6.alloc (.cells #[.int .i64 l] 3)).drew = w7 at HO7 HN7 Q7 ⊢
            go_wp2_with (at_builtin; refine wpList_append_lies _ rfl _ _ 22 rfl (w.heap.size + 1 + 1) 3 i0 (.int .i64 0) 1 8 Tryz.underlying22 hi hz0 hz1 hz2 rfl (by decide) (.slice (some ⟨g1, 0, none⟩) N cap1) N (zs2.map (Value.int .i64)) rfl HO7.out ⟨w6.heap.size, 0, none⟩ 1 1 [.int .i64 l] rfl rfl HN7.out ?l2 (by omega) ?l3 ?l4 ?l5 _ rfl ?_)
            case l2 => intro u hu; simp at hu; subst hu; rfl
            case l3 => unfold maxLen; omega
            case l4 => omega
            case l5 => have h1 := Q7.out.res.lt; omega
            intro g2 cap2 w8 hown1 hgrow hat hlt8
            have hat2 := hatOf hat
            have hbox8 := Q7.out.box.grownS hgrow Q7.out.gG
            have Q8 := Lib.hid (Q7.out.grow HZ.out.1 HZ.out.2.1 ⟨HZ.out.2.2.1, HZ.out.2.2.2⟩ hown1 hgrow hat2)
            clear hown1 hgrow hat hat2 hlt8
            obtain ⟨d0, d1, d2, e0, e1, e2⟩ := hbox8
            go_wp2_with fail
            go_roundw
            case rel => exact ⟨N + 1, g2, cap2, by omega, by omega, Q8⟩
            case measure => rw [HLN.out, Q8.out.box.c0]; show 1000 - (N + 1) < 1000 - N; omega
          · have hlt2 : ¬ (N : Int) < 400 + (m : Int) := by omega
            go_wp2_with fail
            go_meet
            obtain ⟨zs', hz'⟩ := Q6.out.bz hB1 hB2 hN2 ⟨hp1, hp2⟩ ⟨hi1, hi2⟩
            exact ⟨_, _, _, zs', p, inc, hz'⟩
    case rest =>
      obtain ⟨a', n', cap2, zs', p', inc', hZ⟩ := hcut
      obtain ⟨w4, rfl⟩ : ∃ u : World, u = wc := ⟨_, rfl⟩
      obtain ⟨c0, c1, c2, f0, f1, f2⟩ := hZ.out.box
      obtain ⟨d0, d1, d2, e0, e1, e2⟩ := hZ.out.res
      go_wp2_with fail
      have hbz := hZ.out
      have HF := ((hbz.held.set hbl (p := ⟨w.heap.size + 1, 0, none⟩) (Nat.le_succ _) (.slice a' n' cap2)).set hbl (p := ⟨w.heap.size + 1, 1, none⟩) (Nat.le_succ _) (.int .i64 p')).set hbl (p := ⟨w.heap.size + 1, 2, none⟩) (Nat.le_succ _) (.int .i64 inc')
      refine bodyPost_ret (v := curV a' n' cap2 p' inc') (by simp [results, Tryz.results10, go_sem, d0, d1, d2]) rfl ?_
      exact ⟨a', n', cap2, zs', p', inc', rfl, HF.at HS.out, HF.ap, ((hbz.row.store (fun x h _ => Nat.ne_of_gt (hbz.new x h)) _ _).store (fun x h _ => Nat.ne_of_gt (hbz.new x h)) _ _).store (fun x h _ => Nat.ne_of_gt (hbz.new x h)) _ _,
        hbz.few, hbz.bd, hbz.pp, hbz.ii, fun x h => by have := hbz.new x h; omega⟩

end Go.Proofs.YtkienpbmoilheaaGreat

namespace Go.Proofs.YtkienpbmoilheaaGreat
open Go.RowKit
set_option linter.unusedSimpArgs false

theorem row_lt {w : World} {a : Option Addr} {n cap : Nat} {zs : List Int} (h : RowZ w a n cap zs) (hn : 1 ≤ n) : ∀ x, a = some x → x.block < w.heap.size := fun x hx => by
  obtain ⟨y, h1, h2⟩ := h.cell 0 (by omega)
  obtain rfl : x = y := Option.some.inj (hx.symm.trans h1)
  have := lt_of_cell h2
  rwa [add_block] at this
theorem ok_pos {most : Nat} {zs : List Int} {p : Nat} {inc : Int} (h : OkCur most zs p inc) : 1 ≤ zs.length := by have := h.good.p1; have := h.good.p3; omega

section
variable {w u v : World} {b : Nat} {a : Option Addr} {n cap F : Nat} {a1 : Option Addr} {n1 cap1 : Nat} {p inc : Int} {zs : List Int} {G : Nat} {a2 : Option Addr} {n2 cap2 : Nat} {q jnc : Int} {ys : List Int}
end

end Go.Proofs.YtkienpbmoilheaaGreat
