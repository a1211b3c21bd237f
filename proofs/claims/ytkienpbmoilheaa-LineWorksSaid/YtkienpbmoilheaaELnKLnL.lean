/- Package line: Queue, Serve, and the example of the chapter. By the verifier's side. -/
import Derived.Test.YtkienpbmoilheaaELnJLnQ
import Derived.Test.YtkienpbmoilheaaECurL
import Derived.Test.YtkienpbmoilheaaERefA
import Derived.Test.YtkienpbmoilheaaETrD
import Derived.Test.YtkienpbmoilheaaETrSTrTTrU
namespace Go.Proofs.Ytkienpbmoilheaa
open Go.RowKit
set_option linter.unusedSimpArgs false
set_option linter.unusedVariables false

set_option maxRecDepth 100000 in
set_option maxHeartbeats 1600000 in
theorem queue16 (aP : Option Addr) (nP cP : Nat) (lp : List Pk) (v : Value) (nd m N : Nat) (Dn : Nat → Int) (Sn : Nat → Nat → Int) (c t s : Int) (kn : Bool) (hs : sentA c t Sn m N = (s, kn)) (x y : Int)
    (hx : (if kn = true then IntKind.i64.wrap (bytW t (sel c lp) - s) else 0) = x) (hy : (if kn = true then IntKind.i64.wrap (bytW (t + 1) (sel c lp) - s) else 0) = y) (w : World) (hP : PkR w aP nP cP lp) (h : RunR w v nd m N Dn Sn) :
    Calls Try.prog 83 #[.slice aP nP cP, v, .int .i64 c, .int .i64 t] w (fun e w' => e = .returned (.tuple #[.int .i64 x, .int .i64 y]) ∧ Below w.heap.size w w') := by
  have hn4 := h.n4
  have HR := Lib.hid h
  have HP := Lib.hid hP
  have HS := Lib.hid hs
  obtain ⟨da, dc, S, off, rfl, _, _⟩ := h.ex
  have hkt : kn = true → 0 ≤ t ∧ t < (N : Int) := fun hk => by
    unfold sentA at hs
    split at hs
    · assumption
    · cases hs; cases hk
  clear h hP hs
  go_enter Try.func83, Try.ntmps83
  go_upto_region 1 with fail
  obtain ⟨w1, hw1⟩ : ∃ V, w.alloc (.cells #[.slice da nd dc, .slice (some ⟨S, off, none⟩) m m] 91) = V := ⟨_, rfl⟩
  have HB1 := Lib.hid (show Below w.heap.size w w1 from by rw [← hw1]; exact (Below.refl _ _).alloc (Nat.le_refl _) _)
  have HQ1 := Lib.hid (show TwoR w1 w.heap.size (.slice da nd dc) (.slice (some ⟨S, off, none⟩) m m) from by rw [← hw1]; exact ⟨_, World.alloc_heap_new w _⟩)
  rw [hw1]
  clear hw1
  obtain ⟨q0, q1⟩ := HQ1.out.cells
  cases kn with
  | true =>
    obtain ⟨ht0, ht1⟩ := hkt rfl
    rw [if_pos rfl] at hx hy
    have hwt : IntKind.i64.wrap (t + 1) = t + 1 := IntWalk.i64_in _ ⟨by omega, by omega⟩
    have HT := Lib.hid (And.intro ht0 ht1)
    clear ht0 ht1 hkt
    go_wp2_with fail
    refine (sentBefore16 _ nd m N Dn Sn c t s true HS.out _ (HR.out.under HB1.out)).mono ?_
    rintro e w2 ⟨rfl, hb2⟩
    have HB2 := Lib.hid (HB1.out.trans (hb2.mono HB1.out.size))
    clear hb2
    go_wp2_with fail
    refine (bytes13 aP nP cP lp c t _ rfl _ (HP.out.under HB2.out)).mono ?_
    rintro e w3 ⟨rfl, hb3⟩
    have HB3 := Lib.hid (HB2.out.trans (hb3.mono HB2.out.size))
    clear hb3
    go_wp2_with fail
    refine (bytes13 aP nP cP lp c (t + 1) _ rfl _ (HP.out.under HB3.out)).mono ?_
    rintro e w4 ⟨rfl, hb4⟩
    have HB4 := Lib.hid (HB3.out.trans (hb4.mono HB3.out.size))
    clear hb4
    go_wp2_with fail
    go_ret2
    exact ⟨by rw [← hx, ← hy]; rfl, HB4.out⟩
  | false =>
    rw [if_neg (by decide)] at hx hy
    subst hx hy
    go_wp2_with fail
    refine (sentBefore16 _ nd m N Dn Sn c t s false HS.out _ (HR.out.under HB1.out)).mono ?_
    rintro e w2 ⟨rfl, hb2⟩
    have HB2 := Lib.hid (HB1.out.trans (hb2.mono HB1.out.size))
    clear hb2
    go_wp2_with fail
    go_ret2
    exact ⟨rfl, HB2.out⟩
theorem line_firsts (x : Int) : firsts (lineF x) 1 = [0] := by unfold firsts lineF; simp
theorem good_line {x : Int} (h0 : 1 ≤ x) (h1 : x ≤ 4000) : Good [0] 1 x := by
  refine ⟨by simp, by omega, by omega, by simp, by omega, by omega, fun i hi => ?_, fun i hi => ?_, fun hx => ?_, fun hx => ?_⟩
  · simp only [List.length_singleton] at hi
    obtain rfl : i = 0 := by omega
    exact .inl ⟨by decide, by decide⟩
  · simp only [List.length_singleton] at hi; omega
  · exact absurd hx (by decide)
  · show (0 : Int) ≤ 0 + x
    omega
theorem at_line (x : Int) (t : Nat) : atC [0] 1 x t = x * (t : Int) := by
  unfold atC
  by_cases h : t = 0
  · subst h; simp
  · rw [if_neg (by simp; omega), if_neg (by decide)]
    have e : (t - [(0 : Int)].length) / 1 + 1 = t := by simp; omega
    rw [e]
    simp
    exact Int.mul_comm _ _
theorem line_norm {x : Int} (h0 : 1 ≤ x) (h1 : x ≤ 4000) {zs' : List Int} {p' : Nat} {inc' : Int} (h : NormC (firsts (lineF x) 1) 1 x zs' p' inc') : zs' = [0] ∧ p' = 1 ∧ inc' = x := by
  rw [line_firsts] at h
  have hv := h.values (good_line h0 h1) 1
  rcases h with ⟨hf, s, hn, hz, hle, hpp⟩ | ⟨i, hi, he, hj, hz, hp, hi'⟩
  · have hpos := hn.pos
    simp only [List.length_singleton] at hle
    obtain rfl : s = 0 := by omega
    obtain rfl : p' = 1 := by omega
    obtain rfl : zs' = [0] := by rw [hz]; rfl
    rw [at_line, at_line] at hv
    exact ⟨rfl, rfl, by omega⟩
  · exfalso
    simp only [List.length_singleton] at hi
    obtain rfl : i = 0 := by omega
    exact absurd he (by decide)
set_option maxRecDepth 100000 in
set_option maxHeartbeats 1600000 in
theorem serve16_ok (k : Int) (h0 : 1 ≤ k) (h1 : k ≤ 4000) (w : World) :
    Calls Try.prog 85 #[.int .i64 k] w (GivesNorm2 (firsts (lineF k) 1) 1 k w) := by
  have hout : (decide (k < 1) || decide (4000 < k)) = false := by simp; omega
  go_enter Try.func85, Try.ntmps85
  have KR := Lib.hid (Cur3.new w (.slice none 0 0) (.int .i64 0) (.int .i64 0) 24)
  have HB := Lib.hid ((Below.refl _ _).alloc (Nat.le_refl _) (.cells #[.slice none 0 0, .int .i64 0, .int .i64 0] 24) : Below w.heap.size w _)
  go_wp2_with fail
  refine (outside16 k 1 4000 false hout _).mono ?_
  rintro e w2 ⟨rfl, rfl⟩
  go_wp2_with fail
  refine (line_ok k (by omega) (by omega) _).mono ?_
  rintro e w3 ⟨a', n', cap', zs', p', inc', rfl, hb2, hr2, hn2, hx2⟩
  obtain ⟨c0, c1, c2, f0, f1, f2⟩ := KR.out.below hb2
  have hlt3 := KR.out.lt
  have HP := Lib.hid (norm_post2 (b := w.heap.size) (HB.out.trans (hb2.mono HB.out.size)) (Nat.le_refl _) hr2 (fun y hy => by have := hx2 y hy; omega) p' inc' hn2)
  clear hb2 hr2 hn2 hx2 hlt3
  go_wp2_with fail
  exact bodyPost_ret (v := .tuple #[curV a' n' cap' p' inc', .int .i64 0]) (by simp [results, Try.results85, go_sem, c0, c1, c2]) rfl HP.out
theorem serve16 (k : Int) (h0 : 1 ≤ k) (h1 : k ≤ 4000) (w : World) :
    Calls Try.prog 85 #[.int .i64 k] w (fun e w' => ∃ a cap, e = .returned (.tuple #[curV a 1 cap 1 k, .int .i64 0]) ∧ Below w.heap.size w w' ∧ RowZ w' a 1 cap [0] ∧ ∀ x, a = some x → w.heap.size ≤ x.block) := by
  refine (serve16_ok k h0 h1 w).mono ?_
  rintro e w3 ⟨a', n', cap', zs', p', inc', rfl, hb2, hr2, hn2, hx2⟩
  obtain ⟨rfl, rfl, rfl⟩ := line_norm h0 h1 hn2
  obtain rfl : n' = 1 := by rw [← hr2.len]; rfl
  exact ⟨a', cap', rfl, hb2, hr2, hx2⟩

def exP16 : List Pk := [⟨0, 0, 15⟩, ⟨0, 0, 15⟩]
theorem ex16_code : lnCode 10 1 3 exP16 = 0 := by
  unfold lnCode
  rw [if_pos (by kernel_rfl), if_neg]
  rintro (h | h | h | h | h | h | ⟨i, hi, h⟩)
  all_goals first | omega | skip
  have : i = 0 ∨ i = 1 := by
    have : exP16.length = 2 := rfl
    omega
  rcases this with rfl | rfl
  · exact absurd h (by decide)
  · exact absurd h (by decide)
theorem ex16_new (w : World) (t : TypeId) : PkR (w.alloc (.cells #[.int .i64 0, .int .i64 0, .int .i64 15, .int .i64 0, .int .i64 0, .int .i64 15] t)) (some ⟨w.heap.size, 0, none⟩) 2 2 exP16 :=
  pkR_new (l := exP16) (by decide) (fun q hq => by
    unfold exP16 at hq
    simp only [List.mem_cons, List.not_mem_nil, or_false] at hq
    rcases hq with rfl | rfl <;> exact ⟨⟨by decide, by decide⟩, ⟨by decide, by decide⟩, ⟨by decide, by decide⟩⟩) (fun i q hq => by
    rcases i with _ | _ | i
    · cases hq; exact ⟨rfl, rfl, rfl⟩
    · cases hq; exact ⟨rfl, rfl, rfl⟩
    · cases hq)
theorem ex16_done : valsF (lnDone 10 exP16 3) 2 = [1, 2] := by kernel_rfl
theorem ex16_sent : valsF (fun t => sentF exP16 ((0 : Nat) : Int) (lineS 10 exP16 t)) 4 = [0, 10, 20, 30] := by kernel_rfl
theorem ex16_queue : sentA (-1) 1 (fun c t => sentF exP16 (c : Int) (lineS 10 exP16 t)) 1 4 = (10, true) := by kernel_rfl
theorem ex16_x : (if true = true then IntKind.i64.wrap (bytW 1 (sel (-1) exP16) - 10) else 0) = 20 := by kernel_rfl
theorem ex16_y : (if true = true then IntKind.i64.wrap (bytW (1 + 1) (sel (-1) exP16) - 10) else 0) = 20 := by kernel_rfl
/-- A run of a trace can be read. -/
theorem lrun16_r (aP : Option Addr) (nP cP : Nat) (lp : List Pk) (C : Int) (m T : Nat) (hc : lnCode C m T lp = 0) (w : World) (hP : PkR w aP nP cP lp) :
    Calls Try.prog 80 #[.int .i64 C, .int .i64 m, .slice aP nP cP, .int .i64 T] w fun e w' => ∃ v, e = .returned (.tuple #[v, .int .i64 0]) ∧ Below w.heap.size w w' ∧ RunR w' v nP m (T + 1) (lnDone C lp T) (fun c t => sentF lp (c : Int) (lineS C lp t)) := by
  refine (lrun16 aP nP cP lp C m T hc w hP).mono ?_
  rintro e w' ⟨v, rfl, hr⟩
  obtain ⟨hv, k1, k2, k3, k4, k5, k6, k7⟩ := lnCode_ok hc
  have hT := trc_v hv
  have hl := hP.len
  refine ⟨v, rfl, ?_, hr.read (by rw [← hl]; exact hT.len) (by omega) ⟨by omega, by omega⟩ (fun i hi => ?_) (fun c hc t ht => ?_)⟩
  · obtain ⟨D, S, Z, hv, _, _, _, _, _, _, hb⟩ := hr; exact hb
  · have := doneF_bd (lineS C lp) (preS lp (i + 1)) T
    unfold lnDone; omega
  · have h1 := sent_bd hT.nn (c : Int) (lineS C lp t)
    have h2 := preS_top hT
    (try dsimp only)
    omega
end Go.Proofs.Ytkienpbmoilheaa

namespace Go.Proofs.Ytkienpbmoilheaa
open Go.RowKit
set_option linter.unusedSimpArgs false
set_option linter.unusedVariables false

theorem row_new16 {w : World} {zs : List Int} {cs : Array Value} {t : TypeId} {n : Nat} (hl : zs.length = n) (hn : n ≤ 1000) (hc : ∀ i, i < n → cs[i]? = some (.int .i64 (zs.getD i 0))) (hb : ∀ i, i < n → In64 (zs.getD i 0)) : RowZ (w.alloc (.cells cs t)) (some ⟨w.heap.size, 0, none⟩) n n zs :=
  ⟨hl, Nat.le_refl _, by omega, by omega, fun i hi => ⟨_, rfl, by
    have ea : ((⟨w.heap.size, 0, none⟩ : Addr).add i) = ⟨w.heap.size, i, none⟩ := by unfold Addr.add; split <;> simp_all
    rw [ea]
    exact cell_new13 (hc i hi)⟩, hb⟩
theorem row16_12 (w : World) (t : TypeId) : RowZ (w.alloc (.cells #[.int .i64 1, .int .i64 2] t)) (some ⟨w.heap.size, 0, none⟩) 2 2 [1, 2] :=
  row_new16 rfl (by omega) (fun i hi => by
    have : i = 0 ∨ i = 1 := by omega
    rcases this with rfl | rfl <;> rfl) (fun i hi => by
    have : i = 0 ∨ i = 1 := by omega
    rcases this with rfl | rfl <;> exact ⟨by decide, by decide⟩)
theorem row16_4 (w : World) (t : TypeId) : RowZ (w.alloc (.cells #[.int .i64 0, .int .i64 10, .int .i64 20, .int .i64 30] t)) (some ⟨w.heap.size, 0, none⟩) 4 4 [0, 10, 20, 30] :=
  row_new16 rfl (by omega) (fun i hi => by
    have : i = 0 ∨ i = 1 ∨ i = 2 ∨ i = 3 := by omega
    rcases this with rfl | rfl | rfl | rfl <;> rfl) (fun i hi => by
    have : i = 0 ∨ i = 1 ∨ i = 2 ∨ i = 3 := by omega
    rcases this with rfl | rfl | rfl | rfl <;> exact ⟨by decide, by decide⟩)
theorem row16_0 (w : World) (t : TypeId) : RowZ (w.alloc (.cells #[.int .i64 0] t)) (some ⟨w.heap.size, 0, none⟩) 1 1 [0] :=
  row_new16 rfl (by omega) (fun i hi => by
    obtain rfl : i = 0 := by omega
    rfl) (fun i hi => by
    obtain rfl : i = 0 := by omega
    exact ⟨by decide, by decide⟩)
set_option maxRecDepth 100000 in
set_option maxHeartbeats 3200000 in
theorem awake16 (w : World) : Calls Try.prog 79 #[] w (Says (.bool true) w) := by
  go_enter Try.func79, Try.ntmps79
  go_upto_region 2 with fail
  obtain ⟨V, hV⟩ : ∃ V, w.alloc (.cells #[.int .i64 0, .int .i64 0, .int .i64 15, .int .i64 0, .int .i64 0, .int .i64 15] 103) = V := ⟨_, rfl⟩
  have BV := Lib.hid (show Below w.heap.size w V by rw [← hV]; exact (Below.refl _ _).alloc (Nat.le_refl _) _)
  have PV := Lib.hid (show PkR V (some ⟨w.heap.size, 0, none⟩) 2 2 exP16 by rw [← hV]; exact ex16_new w _)
  rw [hV]
  clear hV
  have HR := Lib.hid (show Calls Try.prog 80 #[.int .i64 10, .int .i64 1, .slice (some ⟨w.heap.size, 0, none⟩) 2 2, .int .i64 3] V fun e w' => ∃ v, e = .returned (.tuple #[v, .int .i64 0]) ∧ Below V.heap.size V w' ∧ RunR w' v 2 1 4 (lnDone 10 exP16 3) (fun c t => sentF exP16 (c : Int) (lineS 10 exP16 t)) from
    lrun16_r (some ⟨w.heap.size, 0, none⟩) 2 2 exP16 10 1 3 ex16_code V PV.out)
  go_wp2_with fail
  refine HR.out.mono ?_
  rintro e v1 ⟨v, rfl, hb1, hr1⟩
  have B1 := Lib.hid hb1
  have R1 := Lib.hid hr1
  obtain ⟨da, dc, S, off, rfl, hd, hs⟩ := hr1.ex
  have D1 := Lib.hid (And.intro hd hs)
  clear hb1 hr1 hd hs
  go_upto_region 3 with fail
  obtain ⟨V2, hV2⟩ : ∃ V2, v1.alloc (.cells #[.slice da 2 dc, .slice (some ⟨S, off, none⟩) 1 1] 91) = V2 := ⟨_, rfl⟩
  have B2 := Lib.hid (show Below v1.heap.size v1 V2 by rw [← hV2]; exact (Below.refl _ _).alloc (Nat.le_refl _) _)
  have Q2 := Lib.hid (show TwoR V2 v1.heap.size (.slice da 2 dc) (.slice (some ⟨S, off, none⟩) 1 1) by rw [← hV2]; exact ⟨_, World.alloc_heap_new v1 _⟩)
  rw [hV2]
  clear hV2
  obtain ⟨q0, q1⟩ := Q2.out.cells
  have HQ := Lib.hid (show Calls Try.prog 83 #[.slice (some ⟨w.heap.size, 0, none⟩) 2 2, .agg #[.slice da 2 dc, .slice (some ⟨S, off, none⟩) 1 1], .int .i64 (-1), .int .i64 1] V2 (fun e w' => e = .returned (.tuple #[.int .i64 20, .int .i64 20]) ∧ Below V2.heap.size V2 w') from
    queue16 (some ⟨w.heap.size, 0, none⟩) 2 2 exP16 _ 2 1 4 _ _ (-1) 1 10 true ex16_queue 20 20 ex16_x ex16_y V2 ((PV.out.under B1.out).under B2.out) (R1.out.under B2.out))
  go_wp2_with fail
  refine HQ.out.mono ?_
  rintro e v3 ⟨rfl, hb3⟩
  have B3 := Lib.hid hb3
  have Q3 := Lib.hid (Q2.out.under hb3)
  clear hb3 q0 q1
  go_wp2_with fail
  refine (serve16 10 (by omega) (by omega) _).mono ?_
  rintro e v4 ⟨ac, cc, rfl, hb4, hz4, hx4⟩
  have B4 := Lib.hid hb4
  have Z4 := Lib.hid hz4
  have Q4 := Lib.hid (Q3.out.under hb4)
  clear hb4 hz4 hx4
  go_upto_region 5 with fail
  obtain ⟨V5, hV5⟩ : ∃ V5, v4.alloc (.cells #[.slice ac 1 cc, .int .i64 1, .int .i64 10] 24) = V5 := ⟨_, rfl⟩
  have b5 : Below v4.heap.size v4 V5 := by rw [← hV5]; exact (Below.refl _ _).alloc (Nat.le_refl _) _
  have B5 := Lib.hid b5
  have K5 := Lib.hid (show Cur3 V5 v4.heap.size (.slice ac 1 cc) (.int .i64 1) (.int .i64 10) by rw [← hV5]; exact Cur3.new v4 _ _ _ _)
  have Q5 := Lib.hid (Q4.out.under b5)
  rw [hV5]
  clear hV5
  have BB := Lib.hid (show Below v1.heap.size v1 V5 from B2.out.trans ((B3.out.trans ((B4.out.trans (b5.mono B4.out.size)).mono B3.out.size)).mono B2.out.size))
  have BW := Lib.hid (show Below w.heap.size w V5 from BV.out.trans ((B1.out.trans (BB.out.mono B1.out.size)).mono BV.out.size))
  obtain ⟨x, k, ex, hz, _⟩ := D1.out.2 0 (by omega)
  have ex5 := (BB.out.cell (lt_of_cell ex)).trans ex
  rw [Nat.add_zero] at ex5
  have HZ := Lib.hid (show RowZ V5 x 4 k [0, 10, 20, 30] from by have := hz.under BB.out; rwa [ex16_sent] at this)
  have HD := Lib.hid (show RowZ V5 da 2 dc [1, 2] from by have := D1.out.1.under BB.out; rwa [ex16_done] at this)
  clear ex hz b5
  obtain ⟨q0, q1⟩ := Q5.out.cells
  have hi1 : Calls Try.prog 72 #[.slice da 2 dc, .slice (some ⟨V5.heap.size, 0, none⟩) 2 2] (V5.alloc (.cells #[.int .i64 1, .int .i64 2] 3)) fun e w' => e = .returned (.bool true) ∧ Hid (Below V5.heap.size V5 w') := by
    refine (rints5_any da 2 dc [1, 2] (some ⟨V5.heap.size, 0, none⟩) 2 2 [1, 2] true (by decide) _ (HD.out.under ((Below.refl _ _).alloc (Nat.le_refl _) _)) (row16_12 V5 _)).mono ?_
    rintro e w' ⟨rfl, m, rfl⟩
    exact ⟨rfl, Lib.hid (((Below.refl _ _).alloc (Nat.le_refl _) _).drewN _)⟩
  have HI1 := Lib.hid hi1
  clear hi1
  go_wp2_with fail
  refine HI1.out.mono ?_
  rintro e v6 ⟨rfl, hb6⟩
  have Q6 := Lib.hid (Q5.out.under hb6.out)
  have Z6 := Lib.hid (HZ.out.under hb6.out)
  have ex6 := (hb6.out.cell (lt_of_cell ex5)).trans ex5
  clear q0 q1 ex5
  obtain ⟨q0, q1⟩ := Q6.out.cells
  have hi2 : Calls Try.prog 72 #[.slice x 4 k, .slice (some ⟨v6.heap.size, 0, none⟩) 4 4] (v6.alloc (.cells #[.int .i64 0, .int .i64 10, .int .i64 20, .int .i64 30] 3)) fun e w' => e = .returned (.bool true) ∧ Hid (Below v6.heap.size v6 w') := by
    refine (rints5_any x 4 k [0, 10, 20, 30] (some ⟨v6.heap.size, 0, none⟩) 4 4 [0, 10, 20, 30] true (by decide) _ (Z6.out.under ((Below.refl _ _).alloc (Nat.le_refl _) _)) (row16_4 v6 _)).mono ?_
    rintro e w' ⟨rfl, m, rfl⟩
    exact ⟨rfl, Lib.hid (((Below.refl _ _).alloc (Nat.le_refl _) _).drewN _)⟩
  have HI2 := Lib.hid hi2
  clear hi2
  go_wp2_with fail
  refine HI2.out.mono ?_
  rintro e v7 ⟨rfl, hb7⟩
  have B7 := Lib.hid (hb6.out.trans (hb7.out.mono hb6.out.size))
  obtain ⟨k0, k1, k2, _, _, _⟩ := K5.out.below (b := v4.heap.size) (show Below V5.heap.size V5 v7 from B7.out)
  have ZC := Lib.hid (Z4.out.under (B5.out.trans (B7.out.mono B5.out.size)))
  clear q0 q1 ex6 hb6 hb7
  have hsm : Calls Try.prog 25 #[curV ac 1 cc 1 10, curV (some ⟨v7.heap.size, 0, none⟩) 1 1 1 10] (v7.alloc (.cells #[.int .i64 0] 3)) fun e w' => e = .returned (.bool true) ∧ Hid (Below v7.heap.size v7 w') := by
    refine (rsame_any ac 1 cc [0] 1 10 (some ⟨v7.heap.size, 0, none⟩) 1 1 [0] 1 10 true (by decide) _ (ZC.out.under ((Below.refl _ _).alloc (Nat.le_refl _) _)) (row16_0 v7 _)).mono ?_
    rintro e w' ⟨rfl, hb⟩
    exact ⟨rfl, Lib.hid (((Below.refl _ _).alloc (Nat.le_refl _) _).trans (hb.mono (by simp)))⟩
  have HSM := Lib.hid hsm
  clear hsm
  go_wp2_with fail
  refine HSM.out.mono ?_
  rintro e v8 ⟨rfl, hb8⟩
  have HE := Lib.hid (BW.out.trans ((B7.out.trans (hb8.out.mono B7.out.size)).mono BW.out.size))
  clear hb8
  go_wp2_with fail
  go_ret
  exact ⟨rfl, HE.out⟩
end Go.Proofs.Ytkienpbmoilheaa
