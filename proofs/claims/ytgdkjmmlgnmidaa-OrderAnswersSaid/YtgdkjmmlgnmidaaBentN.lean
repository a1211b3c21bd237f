/- Contract of the reader's Bent, at a curve that lists no value, and at whatever curve. By the verifier's side. -/
import Derived.Test.YtgdkjmmlgnmidaaBent
namespace Go.Proofs.Ytgdkjmmlgnmidaa
open Go.RowKit
set_option linter.unusedSimpArgs false

theorem run_append_zero {P : Program} (w : World) (t ty e : TypeId) (i : TypeInfo) (ht : P.underlying t = some (.slice e)) (hi : P.info? e = some i) (x : Addr) (n cap : Nat) (hn : n ≤ cap) (A : Option Addr) (c : Nat) :
    (Builtin.append_ #[t, t] ty #[.slice (some x) n cap, .slice A 0 c]).run P w = .ok (.slice (some x) n cap) w := by
  rcases A with _ | A
  · simp [Builtin.append_, run_underlying ht, sizeOf, typeInfo, hi, Builtin.lenOf, Builtin.firstCells, hn, storeCells]
  · have hfc := run_firstCells_some (P := P) w i.size 0 A 0 c [] (by simp) (by simp)
    simp [Builtin.append_, run_underlying ht, sizeOf, typeInfo, hi, Builtin.lenOf, hn, hfc, storeCells]

theorem step_append_zero {P : Program} (w : World) {ops : Array Oper} {o : Oper} {a : Act} {K : Act → World → Prop} {Q : Exit → Act → World → Prop} {E : Prop} (hgd : o.guard = none) (s x : Operand) (t : TypeId)
    (ho : o.op = .call { callee := .builtin .append, args := #[s, x], argTypes := #[t, t] })
    (e : TypeId) (i : TypeInfo) (ht : P.underlying t = some (.slice e)) (hi : P.info? e = some i) (y : Addr) (n cap : Nat) (hn : n ≤ cap) (hs : a.eval s = .slice (some y) n cap) (A : Option Addr) (c : Nat) (hx : a.eval x = .slice A 0 c)
    (h : K (a.put o.dst (.slice (some y) n cap)) w) :
    if Region.wanted o (yielded ops a.tmps) = true then Oper.wp P o a w K Q else E := by
  have hw : Region.wanted o (yielded ops a.tmps) = true := by simp [Region.wanted, hgd]
  rw [if_pos hw]
  have hr := run_append_zero (P := P) w t o.type e i ht hi y n cap hn A c
  unfold Oper.wp execOp
  simp only [ho, resolve, invoke, builtin, Sem.run_bind, Sem.run_pure, Result.andThen_ok, List.map_toArray, List.map_cons, List.map_nil, hs, hx, hr]
  exact h

set_option maxRecDepth 100000 in
set_option maxHeartbeats 3200000 in
theorem bent_nil (B : Int) (b : Nat) (ra : Option Addr) (rn rc : Nat) (a : Option Addr) (cap : Nat) (p inc : Int)
    (hp : -2000 ≤ p ∧ p ≤ 2000) (hinc : -4294967296 ≤ inc ∧ inc ≤ 4294967296) (w : World) (hS : SrcAt w b ra rn rc) :
    Calls Try.prog 13 #[.pointer (some ⟨b, 0, none⟩), curV a 0 cap p inc] w (GivesBent B b ra rn rc w) := by
  have HS := Lib.hid hS
  have hbl := hS.lt
  have HPI := Lib.hid (And.intro hp hinc)
  clear hS hp hinc
  obtain ⟨i0, hi, hz0, hz1, hz2⟩ := info_parts info_int
  have hB : Below w.heap.size w ((w.alloc (.cells #[.slice a 0 cap, .int .i64 p, .int .i64 inc] 24)).alloc (.cells #[.slice none 0 0, .int .i64 0, .int .i64 0] 24)) :=
    ((Below.refl _ _).alloc (Nat.le_refl _) _).alloc (by simp) _
  have HB := Lib.hid hB
  have KF := Lib.hid ((Cur3.new w (.slice a 0 cap) (.int .i64 p) (.int .i64 inc) 24).alloc (.cells #[.slice none 0 0, .int .i64 0, .int .i64 0] 24))
  have KR := Lib.hid (Cur3.new2 w (.slice none 0 0) (.int .i64 0) (.int .i64 0) 24 (.cells #[.slice a 0 cap, .int .i64 p, .int .i64 inc] 24))
  have hsz : ((w.alloc (.cells #[.slice a 0 cap, .int .i64 p, .int .i64 inc] 24)).alloc (.cells #[.slice none 0 0, .int .i64 0, .int .i64 0] 24)).heap.size = w.heap.size + 1 + 1 := by simp
  have HSZ := Lib.hid hsz
  clear hB hsz
  go_enter Try.func13, Try.ntmps13
  go_wp2_with fail
  generalize (w.alloc (.cells #[.slice a 0 cap, .int .i64 p, .int .i64 inc] 24)).alloc (.cells #[.slice none 0 0, .int .i64 0, .int .i64 0] 24) = W at HB KF KR HSZ ⊢
  obtain ⟨c0, c1, c2, f0, f1, f2⟩ := KF.out
  have hNW : w.heap.size + 1 + 1 ≤ W.heap.size := Nat.le_of_eq HSZ.out.symm
  have hN0 := Lib.hid hNW
  have hN1' := Lib.hid (Nat.le_succ_of_le hNW)
  have hN01 := Lib.hid (show w.heap.size + 1 + 1 ≤ (W.alloc (.cells #[] 3)).heap.size by simp; omega)
  have hbN : w.heap.size < w.heap.size + 1 + 1 := by omega
  have HK0 := Lib.hid (kept_drew (b := w.heap.size) (N := w.heap.size + 1 + 1) (W := W) ⟨c0, c1, c2, Below.refl _ _⟩)
  have HkD := Lib.hid (fun u (h : Kept3 w.heap.size (w.heap.size + 1 + 1) W (.slice a 0 cap) (.int .i64 p) (.int .i64 inc) u) => kept_drew h)
  have HkA := Lib.hid (fun u o (h : Kept3 w.heap.size (w.heap.size + 1 + 1) W (.slice a 0 cap) (.int .i64 p) (.int .i64 inc) u) => kept_alloc hbN hNW h o)
  have HkAD := Lib.hid (fun (u : World) o (h : Kept3 w.heap.size (w.heap.size + 1 + 1) W (.slice a 0 cap) (.int .i64 p) (.int .i64 inc) u.drew) => kept_allocD hbN hNW h o)
  have Hk3 := Lib.hid (fun u (r : Nat) y0 y1 y2 (h : Kept3 w.heap.size (w.heap.size + 1 + 1) W (.slice a 0 cap) (.int .i64 p) (.int .i64 inc) u) (hr : w.heap.size + 1 + 1 ≤ r) => kept_set hbN (kept_set hbN (kept_set (p := ⟨r, 0, none⟩) hbN h hr y0) (p := ⟨r, 1, none⟩) hr y1) (p := ⟨r, 2, none⟩) hr y2)
  have HkS := Lib.hid (fun (u : World) o o' (h : Kept3 w.heap.size (w.heap.size + 1 + 1) W (.slice a 0 cap) (.int .i64 p) (.int .i64 inc) (u.alloc o)) hu => kept_swap hbN h o' hu)
  have HkSD := Lib.hid (fun (u : World) o o' (h : Kept3 w.heap.size (w.heap.size + 1 + 1) W (.slice a 0 cap) (.int .i64 p) (.int .i64 inc) (u.alloc o).drew) hu => kept_swapD hbN h o' hu)
  have HkB := Lib.hid (fun o o' => (show Kept3 w.heap.size (w.heap.size + 1 + 1) W (.slice a 0 cap) (.int .i64 p) (.int .i64 inc) ((W.alloc o).alloc o').drew from kept_drew (kept_alloc hbN hNW (kept_alloc hbN hNW ⟨c0, c1, c2, Below.refl _ _⟩ o) o')))
  clear hNW
  go_upto_region 2 with fail
  go_cut [5] (fun s5 wx => ∃ Gb g, s5 = .pointer (some ⟨Gb, 0, none⟩) ∧ w.heap.size + 1 < Gb ∧ ¬ g = Gb ∧ w.heap.size + 1 < g ∧ Hid (Cur3 wx Gb (.slice (some ⟨g, 0, none⟩) 0 0) (.int .i64 p) (.int .i64 inc)) ∧ Hid (Below (w.heap.size + 1 + 1) W wx))
  case first =>
    go_region_held3 (fun w' => w'.cell? ⟨w.heap.size, 0, none⟩ = some (.slice a 0 cap) ∧ w'.cell? ⟨w.heap.size, 1, none⟩ = some (.int .i64 p) ∧ w'.cell? ⟨w.heap.size, 2, none⟩ = some (.int .i64 inc) ∧ Hid (Below (w.heap.size + 1 + 1) W w'))
      (first | with_reducible exact HK0.out | with_reducible exact HkB.out _ _ | with_reducible exact HkD.out _ (by assumption) | with_reducible exact HkA.out _ _ (by assumption) | with_reducible exact HkAD.out _ _ (by assumption) | with_reducible exact Hk3.out _ _ _ _ _ (by assumption) hN0.out | with_reducible exact Hk3.out _ _ _ _ _ (by assumption) hN1'.out | with_reducible exact HkS.out _ _ _ (by assumption) hN0.out | with_reducible exact HkSD.out _ _ _ (by assumption) hN0.out)
      (first | refine step_append_zero _ (by rfl) _ _ _ (by rfl) 3 i0 (by rfl) hi _ 0 0 (Nat.le_refl _) (by rfl) _ _ (by rfl) ?_)
    all_goals go_wp2_with fail
    all_goals go_meet
    all_goals first
      | exact ⟨W.heap.size + 1, W.heap.size, rfl, by have := hN0.out; omega, by omega, by have := hN0.out; omega, Cur3.new _ _ _ _ _, kept_out (by assumption)⟩
      | exact ⟨W.heap.size + 1, W.heap.size, rfl, by have := hN0.out; omega, by omega, by have := hN0.out; omega, (Cur3.drewL (Cur3.new2 W _ _ _ _ _)).set _ _ _, kept_out (by assumption)⟩
      | exact ⟨W.heap.size, W.heap.size + 1, rfl, by have := hN0.out; omega, by omega, by have := hN0.out; omega, (Cur3.drewL ((Cur3.new W _ _ _ _).alloc _)), kept_out (by assumption)⟩
      | exact ⟨W.heap.size, W.heap.size + 1, rfl, by have := hN0.out; omega, by omega, by have := hN0.out; omega, (Cur3.drewL ((Cur3.new W _ _ _ _).alloc _)).set _ _ _, kept_out (by assumption)⟩
      | exact ⟨W.heap.size + 1, W.heap.size, rfl, by have := hN0.out; omega, by omega, by have := hN0.out; omega, Cur3.drewL (Cur3.new2 W _ _ _ _ _), kept_out (by assumption)⟩
  case rest =>
    obtain ⟨Gb, g, rfl, hGb, hgG, hg, KG, HB0⟩ := hcut
    obtain ⟨w0, rfl⟩ : ∃ u : World, u = wc := ⟨_, rfl⟩
    have HBW : Hid (Below W.heap.size W w0) := Lib.hid (by rw [HSZ.out]; exact HB0.out)
    have KR0 := Lib.hid (KR.out.below HBW.out)
    obtain ⟨c0, c1, c2, f0, f1, f2⟩ := KG.out
    obtain ⟨d0, d1, d2, e0, e1, e2⟩ := KR0.out
    have hh := Lib.hid (((Held.start HS.out).below HB.out).below HBW.out)
    have hn0 : ((0 : Nat) : Int) = 0 := rfl
    go_wp2_with fail
    have HF := ((hh.out.set hbl (p := ⟨w.heap.size + 1, 0, none⟩) (Nat.le_succ _) (.slice (some ⟨g, 0, none⟩) 0 0)).set hbl (p := ⟨w.heap.size + 1, 1, none⟩) (Nat.le_succ _) (.int .i64 p)).set hbl (p := ⟨w.heap.size + 1, 2, none⟩) (Nat.le_succ _) (.int .i64 inc)
    refine bodyPost_ret (v := curV (some ⟨g, 0, none⟩) 0 0 p inc) (by simp [results, Try.results13, go_sem, d0, d1, d2]) rfl ?_
    exact ⟨some ⟨g, 0, none⟩, 0, 0, [], p, inc, rfl, HF.at HS.out, HF.ap, ⟨rfl, Nat.le_refl _, Nat.zero_le _, by omega, fun i hi => absurd hi (Nat.not_lt_zero _), fun i hi => absurd hi (Nat.not_lt_zero _)⟩, by omega, fun i hi => absurd hi (Nat.not_lt_zero _), HPI.out.1, HPI.out.2, fun x h => by cases h; show w.heap.size ≤ g; omega⟩

/-- Bent, at whatever curve. -/
theorem bent_u (B : Int) (hB1 : 4611686018427387905 ≤ B) (hB2 : B ≤ 9223372036854775800) (b : Nat) (ra : Option Addr) (rn rc : Nat) (a : Option Addr) (n cap : Nat) (zs : List Int) (p inc : Int) (hn2 : n ≤ 1000) (hbd : ∀ i, i < zs.length → -B ≤ zs.getD i 0 ∧ zs.getD i 0 ≤ B)
    (hp : -2000 ≤ p ∧ p ≤ 2000) (hinc : -4294967296 ≤ inc ∧ inc ≤ 4294967296) (w : World) (hS : SrcAt w b ra rn rc) (h : RowZ w a n cap zs) :
    Calls Try.prog 13 #[.pointer (some ⟨b, 0, none⟩), curV a n cap p inc] w (GivesBent B b ra rn rc w) := by
  rcases Nat.eq_zero_or_pos n with rfl | hn
  · exact bent_nil B b ra rn rc a cap p inc hp hinc w hS
  · exact bent_any B hB1 hB2 b ra rn rc a n cap zs p inc hn hn2 hbd hp hinc w hS h

end Go.Proofs.Ytgdkjmmlgnmidaa
