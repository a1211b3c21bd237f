/- Contracts: keep.Longer at a curve that is not finite; Longer at whatever curve was drawn. By the verifier's side. -/
import Derived.Test.YtjipmkgnndldpaaIKeepC
namespace Go.Proofs.Ytjipmkgnndldpaa
open Go.RowKit
set_option linter.unusedSimpArgs false

set_option maxRecDepth 100000 in
set_option maxHeartbeats 3200000 in
theorem longer_inf (a : Option Addr) (n cap : Nat) (zs : List Int) (p : Nat) (inc : Int) (g : Good zs p inc) (hf : zs.getD (zs.length - 1) 0 = infV) (mi ti : Int) (w : World) (h : RowZ w a n cap zs) :
    Calls Try.prog 41 #[curV a n cap p inc, .int .i64 mi, .int .i64 ti] w fun e w' => e = .returned (curV a n cap p inc) ∧ Below w.heap.size w w' := by
  obtain ⟨i0, hi, hz0, hz1, hz2⟩ := info_parts info_int
  have hB : Below w.heap.size w ((w.alloc (.cells #[.slice a n cap, .int .i64 p, .int .i64 inc] 38)).alloc (.cells #[.slice none 0 0, .int .i64 0, .int .i64 0] 38)) :=
    ((Below.refl _ _).alloc (Nat.le_refl _) _).alloc (by simp) _
  have HB := Lib.hid hB
  have H := Lib.hid (h.under hB)
  have hlen := h.len
  have hn4 : n ≤ 400 := by have := g.few; omega
  have hp1 := g.p1
  have hp2 := g.p2
  have hp3 := g.p3
  have hi0' := g.i0
  have hi1' := g.i1
  have HL := Lib.hid hlen
  have G := Lib.hid g
  have HF := Lib.hid hf
  obtain ⟨x, rfl, _⟩ := h.cell 0 (by omega)
  have hn1 : 1 ≤ n := by omega
  have hpn : p ≤ n := by omega
  have KF := Lib.hid ((Cur3.new w (.slice (some x) n cap) (.int .i64 p) (.int .i64 inc) 38).alloc (.cells #[.slice none 0 0, .int .i64 0, .int .i64 0] 38))
  have KR := Lib.hid (Cur3.new2 w (.slice none 0 0) (.int .i64 0) (.int .i64 0) 38 (.cells #[.slice (some x) n cap, .int .i64 p, .int .i64 inc] 38))
  have hsz : ((w.alloc (.cells #[.slice (some x) n cap, .int .i64 p, .int .i64 inc] 38)).alloc (.cells #[.slice none 0 0, .int .i64 0, .int .i64 0] 38)).heap.size = w.heap.size + 1 + 1 := by simp
  have HSZ := Lib.hid hsz
  clear h hB hlen g hf hp3 hsz
  go_enter Try.func41, Try.ntmps41
  go_wp2_with fail
  generalize (w.alloc (.cells #[.slice (some x) n cap, .int .i64 p, .int .i64 inc] 38)).alloc (.cells #[.slice none 0 0, .int .i64 0, .int .i64 0] 38) = W at HB H KF KR HSZ ⊢
  obtain ⟨c0, c1, c2, f0, f1, f2⟩ := KF.out
  have hNW : w.heap.size + 1 + 1 ≤ W.heap.size := Nat.le_of_eq HSZ.out.symm
  have hN0 := Lib.hid hNW
  have hN1' := Lib.hid (Nat.le_succ_of_le hNW)
  have hN01 := Lib.hid (show w.heap.size + 1 + 1 ≤ (W.alloc (.cells #[] 3)).heap.size by simp; omega)
  have hbN : w.heap.size < w.heap.size + 1 + 1 := by omega
  have HK0 := Lib.hid (kept_drew (b := w.heap.size) (N := w.heap.size + 1 + 1) (W := W) ⟨c0, c1, c2, Below.refl _ _⟩)
  have HkD := Lib.hid (fun u (h : Kept3 w.heap.size (w.heap.size + 1 + 1) W (.slice (some x) n cap) (.int .i64 p) (.int .i64 inc) u) => kept_drew h)
  have HkA := Lib.hid (fun u o (h : Kept3 w.heap.size (w.heap.size + 1 + 1) W (.slice (some x) n cap) (.int .i64 p) (.int .i64 inc) u) => kept_alloc hbN hNW h o)
  have HkAD := Lib.hid (fun (u : World) o (h : Kept3 w.heap.size (w.heap.size + 1 + 1) W (.slice (some x) n cap) (.int .i64 p) (.int .i64 inc) u.drew) => kept_allocD hbN hNW h o)
  have HkG := Lib.hid (fun u v (r m c : Nat) (h : Kept3 w.heap.size (w.heap.size + 1 + 1) W (.slice (some x) n cap) (.int .i64 p) (.int .i64 inc) u) (hg : u.grownBy v (Value.slice (some ⟨r, 0, none⟩) m c).ownBlock) (hr : w.heap.size + 1 + 1 ≤ r) => kept_grown hbN hNW h hg (fun j hj => by cases hj; exact hr))
  have Hk3 := Lib.hid (fun u (r : Nat) y0 y1 y2 (h : Kept3 w.heap.size (w.heap.size + 1 + 1) W (.slice (some x) n cap) (.int .i64 p) (.int .i64 inc) u) (hr : w.heap.size + 1 + 1 ≤ r) => kept_set hbN (kept_set hbN (kept_set (p := ⟨r, 0, none⟩) hbN h hr y0) (p := ⟨r, 1, none⟩) hr y1) (p := ⟨r, 2, none⟩) hr y2)
  have HkS := Lib.hid (fun (u : World) o o' (h : Kept3 w.heap.size (w.heap.size + 1 + 1) W (.slice (some x) n cap) (.int .i64 p) (.int .i64 inc) (u.alloc o)) hu => kept_swap hbN h o' hu)
  have HkSD := Lib.hid (fun (u : World) o o' (h : Kept3 w.heap.size (w.heap.size + 1 + 1) W (.slice (some x) n cap) (.int .i64 p) (.int .i64 inc) (u.alloc o).drew) hu => kept_swapD hbN h o' hu)
  have hO1 := Lib.hid (show (W.alloc (.cells #[] 3)).drew.ownsRow (w.heap.size + 1 + 1) 3 1 (.slice (some ⟨W.heap.size, 0, none⟩) 0 0) 0 [] from World.ownsRow_made W #[] 0 hNW (Nat.zero_le _) rfl)
  have hO2 := Lib.hid (show ∀ o, ((W.alloc (.cells #[] 3)).alloc o).drew.ownsRow (w.heap.size + 1 + 1) 3 1 (.slice (some ⟨W.heap.size, 0, none⟩) 0 0) 0 [] from fun o => (World.ownsRow_made (e := 3) (size := 1) W #[] 0 hNW (Nat.zero_le _) rfl).alloc o)
  have hO3 := Lib.hid (show ∀ o, ((W.alloc o).alloc (.cells #[] 3)).drew.ownsRow (w.heap.size + 1 + 1) 3 1 (.slice (some ⟨W.heap.size + 1, 0, none⟩) 0 0) 0 [] from fun o => by
    have := World.ownsRow_made (e := 3) (size := 1) (W.alloc o) #[] 0 (show w.heap.size + 1 + 1 ≤ (W.alloc o).heap.size by simp; omega) (Nat.zero_le _) rfl
    rw [show (W.alloc o).heap.size = W.heap.size + 1 by simp] at this
    exact this)
  clear hNW
  go_cut [7] (fun s7 wx => ∃ Gb g cap', s7 = .pointer (some ⟨Gb, 0, none⟩) ∧ w.heap.size + 1 < Gb ∧ ¬ g = Gb ∧ Hid (Cur3 wx Gb (.slice (some ⟨g, 0, none⟩) n cap') (.int .i64 p) (.int .i64 inc)) ∧
    Hid (wx.ownsRow (w.heap.size + 1 + 1) 3 1 (.slice (some ⟨g, 0, none⟩) n cap') n (zs.map (Value.int .i64))) ∧ Hid (Below (w.heap.size + 1 + 1) W wx))
  case first =>
    go_region_held3 (fun w' => w'.cell? ⟨w.heap.size, 0, none⟩ = some (.slice (some x) n cap) ∧ w'.cell? ⟨w.heap.size, 1, none⟩ = some (.int .i64 p) ∧ w'.cell? ⟨w.heap.size, 2, none⟩ = some (.int .i64 inc) ∧ Hid (Below (w.heap.size + 1 + 1) W w'))
      (first | with_reducible exact HK0.out | with_reducible exact HkD.out _ (by assumption) | with_reducible exact HkA.out _ _ (by assumption) | with_reducible exact HkAD.out _ _ (by assumption) | with_reducible exact HkG.out _ _ _ _ _ (by assumption) hgrow hN0.out | with_reducible exact HkG.out _ _ _ _ _ (by assumption) hgrow hN1'.out | with_reducible exact Hk3.out _ _ _ _ _ (by assumption) hN0.out | with_reducible exact Hk3.out _ _ _ _ _ (by assumption) hN1'.out | with_reducible exact HkS.out _ _ _ (by assumption) (hgsz.out) | with_reducible exact HkSD.out _ _ _ (by assumption) hN0.out | with_reducible exact HkSD.out _ _ _ (by assumption) hN01.out)
      ((refine step_append_lies _ (by rfl) _ _ _ (by rfl) (w.heap.size + 1 + 1) 3 i0 _ 1 8 Try.underlying27 hi hz0 hz1 hz2 rfl (by decide) _ 0 [] (by rfl) (by first | exact hO1.out | exact hO2.out _ | exact hO3.out _) x n cap (zs.map (Value.int .i64)) (by rfl) (by rw [List.length_map, Nat.mul_one]; exact HL.out) (newsOf H.out HSZ.out (by assumption)) (one_ints zs) (by omega) (by unfold maxLen; omega) (by omega) (baseOf HSZ.out (by assumption)) _ rfl ?_; intro g cap' w1 hown1 hgrow hat hlt; obtain ⟨hgc, hgf⟩ := grownRules hgrow; have hat2 := Lib.hid (hatOf hat); have hgsz := Lib.hid (Nat.le_trans (baseOf HSZ.out (by assumption)) hgrow.size)))
    all_goals go_wp2_with fail
    all_goals go_meet
    all_goals (try simp only [Nat.zero_add, List.nil_append] at hown1)
    all_goals first
      | exact ⟨w1.heap.size, g, cap', rfl, by have := hgsz.out; omega, by omega, Cur3.new _ _ _ _ _, hown1.alloc _, kept_out (by assumption)⟩
      | exact ⟨W.heap.size + 1, g, cap', rfl, by have := hN0.out; omega, by have := hat2.out; simp at this; omega, (Cur3.grownS (Cur3.drewL (Cur3.new2 W _ _ _ _ _)) hgrow (by omega)).set _ _ _, owns_set3 hown1 (by have := hat2.out; simp at this; omega) _ _ _, kept_out (by assumption)⟩
      | exact ⟨W.heap.size, g, cap', rfl, by have := hN0.out; omega, by have := hat2.out; simp at this; omega, (Cur3.grownS (Cur3.drewL ((Cur3.new W _ _ _ _).alloc _)) hgrow (by omega)).set _ _ _, owns_set3 hown1 (by have := hat2.out; simp at this; omega) _ _ _, kept_out (by assumption)⟩
  case rest =>
    obtain ⟨Gb, g0, cap0, rfl, hGb, hg0, KG0, HO0, HB0⟩ := hcut
    obtain ⟨w0, rfl⟩ : ∃ u : World, u = wc := ⟨_, rfl⟩
    have HBW : Hid (Below W.heap.size W w0) := Lib.hid (by rw [HSZ.out]; exact HB0.out)
    obtain ⟨j, hj⟩ : ∃ j, n = j + 1 := ⟨n - 1, by omega⟩
    obtain ⟨x', hx, cl⟩ := (H.out.under HBW.out).cell j (by omega)
    obtain rfl : x = x' := Option.some.inj hx
    rw [show zs.getD j 0 = 4611686018427387904 by have := HF.out; rwa [HL.out, show n - 1 = j by omega] at this] at cl
    have hn0 : ((n : Int) == 0) = false := by simp; omega
    have qb1 : decide (n < p) = false := by simp; omega
    have qb2 : decide ((p : Int) < 1) = false := by simp; omega
    have q1 : (n : Int) - 1 = (j : Int) := by omega
    have q2 : (j : Int) < (n : Int) := by omega
    clear hj hx
    have KF0 := Lib.hid (KF.out.below HBW.out)
    have KR0 := Lib.hid (KR.out.below HBW.out)
    obtain ⟨c0, c1, c2, f0, f1, f2⟩ := KF0.out
    obtain ⟨o0, o1, o2, o3, o4, o5⟩ := KR0.out
    go_wp2_with fail
    exact bodyPost_ret (v := curV (some x) n cap p inc) (by simp [results, Try.results41, go_sem, o0, o1, o2]) rfl
      ⟨rfl, below_set3 (b := w.heap.size + 1) (HB.out.trans (HB0.out.mono (by omega))) (Nat.le_succ _) _ _ _⟩

end Go.Proofs.Ytjipmkgnndldpaa
