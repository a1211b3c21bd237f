/- Cumulative of package trace. By the verifier's side. -/
import Derived.Test.YtknimlpdpgpliaaTTrPTrQ
import Derived.Laws.MakeOwn
import Derived.Test.YtknimlpdpgpliaaTRegIRegN
namespace Go.Proofs.Ytknimlpdpgpliaa
open Go.RowKit Go.Shelf
set_option linter.unusedSimpArgs false
set_option linter.unusedVariables false
attribute [local go_sem] Oper.semAt_some

theorem BB.drew {n b : Nat} {A B : World} (h : BB n b A B) : BB n b A B.drew := ⟨h.os, h.tape, h.output, h.size, h.block⟩
theorem getD_lt {l : Array Bool} {i : Nat} (h : l.getD i true = false) : i < l.size := by
  rcases Nat.lt_or_ge i l.size with c | c
  · exact c
  · rw [Array.getD_eq_getD_getElem?, Array.getElem?_eq_none c] at h; cases h
theorem getD_ff {l : Array Bool} {i : Nat} (h : l.getD i true = false) : l.getD i false = false := by
  have hi := getD_lt h
  rw [Array.getD_eq_getD_getElem?, Array.getElem?_eq_getElem hi] at h ⊢
  exact h
theorem getD_tf {l : Array Bool} {i : Nat} (h : l.getD i false = true) : l.getD i true = true := by
  rw [Array.getD_eq_getD_getElem?] at h ⊢
  cases hx : l[i]? with
  | none => rfl
  | some b => rw [hx] at h; exact h
theorem getD_set {l : Array Bool} {i : Nat} (h : i < l.size) : (l.setIfInBounds i true).getD i false = true := by
  rw [Array.getD_eq_getD_getElem?, Array.getElem?_setIfInBounds_self_of_lt h]; rfl
/-- A block of N sums. -/
def SumB (W : World) (M N : Nat) (F : Nat → Int) : Prop := ∃ cs, W.heap[M]? = some (.cells cs 3 (0, 0)) ∧ cs.size = N ∧ ∀ k, k < N → cs[k]? = some (.int .i64 (F k))
section
variable {W V : World} {M N : Nat} {F G : Nat → Int}
theorem SumB.lt (h : SumB W M N F) : M < W.heap.size := by obtain ⟨cs, h1, _⟩ := h; exact (Array.getElem?_eq_some_iff.1 h1).1
theorem SumB.cell (h : SumB W M N F) {k : Nat} (hk : k < N) : W.cell? ⟨M, k, none⟩ = some (.int .i64 (F k)) := by
  obtain ⟨cs, h1, h2, h3⟩ := h
  rw [← h3 k hk]; simp [World.cell?, h1]
theorem SumB.frozen (h : SumB W M N F) (o : Nat) : W.frozen? ⟨M, o, none⟩ = false := by
  obtain ⟨cs, h1, h2, h3⟩ := h
  simp [World.frozen?, h1]
theorem SumB.of_block (h : SumB W M N F) (hb : V.heap[M]? = W.heap[M]?) : SumB V M N F := by obtain ⟨cs, h1, h2⟩ := h; exact ⟨cs, hb.trans h1, h2⟩
theorem SumB.under (h : SumB W M N F) (hb : Below W.heap.size W V) : SumB V M N F := h.of_block (hb.block _ h.lt)
theorem SumB.alloc (h : SumB W M N F) (o : Obj) : SumB (W.alloc o) M N F := h.under ((Below.refl _ _).alloc (Nat.le_refl _) _)
theorem SumB.congr (h : SumB W M N F) (he : ∀ k, k < N → F k = G k) : SumB W M N G := by obtain ⟨cs, h1, h2, h3⟩ := h; exact ⟨cs, h1, h2, fun k hk => by rw [h3 k hk, he k hk]⟩
theorem SumB.set (h : SumB W M N F) {j : Nat} (hj : j < N) (v : Int) : SumB (W.setCell ⟨M, j, none⟩ (.int .i64 v)) M N (fun k => if k = j then v else F k) := by
  obtain ⟨cs, h1, h2, h3⟩ := h
  refine ⟨cs.setIfInBounds j (.int .i64 v), by simp [World.setCell, Array.getElem?_modify, h1], by simpa using h2, fun k hk => ?_⟩
  show _ = some (Value.int .i64 (if k = j then v else F k))
  by_cases e : k = j
  · subst e; rw [if_pos rfl, Array.getElem?_setIfInBounds_self_of_lt (by omega)]
  · rw [if_neg e, Array.getElem?_setIfInBounds_ne (fun h => e h.symm)]; exact h3 k hk
theorem SumB.made (W : World) (N : Nat) : SumB (W.alloc (.cells (madeCells #[.int .i64 0] N) 3)) W.heap.size N (fun _ => 0) :=
  ⟨_, World.alloc_heap_new W _, size_madeCells _ _, fun k hk => by simp [madeCells, hk, Nat.mod_one]⟩
theorem sumB_own {β : Type} (F : β → Nat → Int) : Own (fun (s : β) W => SumB W M N (F s)) := fun s X Y row hs hg hrow => by
  have hlt := hs.lt
  refine hs.of_block (hg.block M hlt (fun e' => ?_))
  obtain ⟨cs, h1, _⟩ := hs
  obtain ⟨o, ho, hc⟩ := hrow M e'.symm
  rw [h1] at ho; cases ho; cases hc
end
theorem make13 (N : Nat) (hN : N ≤ 4096) (w : World) : (Instr.makeSlice 22 (.int .i64 (N : Int)) (.int .i64 (N : Int))).run Try.prog w = .ok (.slice (some ⟨w.heap.size, 0, none⟩) N N) (w.alloc (.cells (madeCells #[.int .i64 0] N) 3)) := by
  obtain ⟨i0, hi, hz0, hz1, hz2⟩ := info_parts info_int
  have := run_make (P := Try.prog) w 22 3 i0 _ Try.underlying22 hi hz0 .i64 .i64 (N : Int) (N : Int) (by omega) (by omega) (by rw [hz2]; omega) (by omega)
  rw [hz1] at this
  simp only [Int.toNat_natCast, Nat.mul_one] at this
  exact this

/-- The packets without what is known of them. -/
def vals13 {lst : List Pk} (l : List { q : Pk // q ∈ lst }) : List Pk := l.map (·.1)
theorem vals13_snoc {lst : List Pk} (l : List { q : Pk // q ∈ lst }) (x : { q : Pk // q ∈ lst }) : vals13 (l ++ [x]) = vals13 l ++ [x.1] := by unfold vals13; simp
theorem vals13_len {lst : List Pk} (l : List { q : Pk // q ∈ lst }) : (vals13 l).length = l.length := by unfold vals13; simp
theorem vals13_mem {lst : List Pk} {l : List { q : Pk // q ∈ lst }} {q : Pk} (h : q ∈ vals13 l) : q ∈ lst := by
  obtain ⟨y, _, rfl⟩ := List.mem_map.1 h
  exact y.2

/-- What comes at the tick ahead of k. -/
def cntT (k : Nat) (q : Pk) : Int := if q.t + 1 = (k : Int) then q.s else 0
/-- The counts so far. -/
def cntF (l : List Pk) (k : Nat) : Int := sumG (cntT k) l
theorem cntF_snoc (l : List Pk) (q : Pk) (k : Nat) : cntF (l ++ [q]) k = cntF l k + cntT k q := by unfold cntF; rw [sumG_append]; simp [sumG]
theorem cntF_bd {l : List Pk} (h : ∀ q ∈ l, okP q = true) (hl : l.length ≤ 60) (k : Nat) : 0 ≤ cntF l k ∧ cntF l k ≤ 90000 := by
  constructor
  · have := sumG_mono (fun _ => 0) (cntT k) l (fun q hq => by unfold cntT; have := (okP_iff q).1 (h q hq); split <;> omega)
    rw [sumG_zero] at this; exact this
  · have := sumG_bound (cntT k) 1500 l (fun q hq => by unfold cntT; have := (okP_iff q).1 (h q hq); split <;> omega)
    have h2 : ((l.length : Int)) * 1500 ≤ 90000 := by omega
    unfold cntF; omega
theorem byt_bd {l : List Pk} (h : ∀ q ∈ l, okP q = true) (hl : l.length ≤ 60) (t : Int) : 0 ≤ sumG (bytT t) l ∧ sumG (bytT t) l ≤ 90000 := by
  constructor
  · have := sumG_mono (fun _ => 0) (bytT t) l (fun q hq => by unfold bytT; have := (okP_iff q).1 (h q hq); split <;> omega)
    rw [sumG_zero] at this; exact this
  · have := sumG_bound (bytT t) 1500 l (fun q hq => by unfold bytT; have := (okP_iff q).1 (h q hq); split <;> omega)
    have h2 : ((l.length : Int)) * 1500 ≤ 90000 := by omega
    omega
theorem byt_step {l : List Pk} (h : ∀ q ∈ l, okP q = true) (k : Nat) : sumG (bytT ((k + 1 : Nat) : Int)) l = sumG (bytT (k : Int)) l + cntF l (k + 1) := by
  unfold cntF
  rw [← sumG_add]
  refine sumG_congr _ _ l (fun q _ => ?_)
  unfold bytT cntT
  by_cases c : q.t < (k : Int)
  · rw [if_pos (by omega), if_pos c, if_neg (by omega)]; omega
  · by_cases d : q.t = (k : Int)
    · rw [if_pos (by omega), if_neg c, if_pos (by omega)]; omega
    · rw [if_neg (by omega), if_neg c, if_neg (by omega)]; omega
theorem byt_zero {l : List Pk} (h : ∀ q ∈ l, okP q = true) : sumG (bytT ((0 : Nat) : Int)) l = 0 := by
  rw [← sumG_zero l]
  exact sumG_congr _ _ l (fun q hq => by unfold bytT; have := (okP_iff q).1 (h q hq); rw [if_neg (by omega)])
theorem cnt_zero {l : List Pk} (h : ∀ q ∈ l, okP q = true) : cntF l 0 = 0 := by
  unfold cntF
  rw [← sumG_zero l]
  exact sumG_congr _ _ l (fun q hq => by unfold cntT; have := (okP_iff q).1 (h q hq); rw [if_neg (by omega)])
theorem vcode_ok {l : List Pk} (h : vcode l = 0) : l.length ≤ 60 ∧ (∀ q ∈ l, okP q = true) ∧ Asc l := by
  unfold vcode at h
  by_cases c : 60 < l.length
  · rw [if_pos c] at h; omega
  · rw [if_neg c, vgo_ok 2 7 (by decide) (by decide)] at h
    exact ⟨by omega, fun q hq => (h.1 q hq).1, h.2⟩
theorem vcode_of {l : List Pk} (h1 : l.length ≤ 60) (h2 : ∀ q ∈ l, okP q = true) (h3 : Asc l) : vcode l = 0 := by
  unfold vcode
  rw [if_neg (by omega), vgo_ok 2 7 (by decide) (by decide)]
  exact ⟨fun q hq => ⟨h2 q hq, by have := (okP_iff q).1 (h2 q hq); omega⟩, h3⟩

set_option maxRecDepth 100000 in
set_option maxHeartbeats 4000000 in
theorem cum_in (a : Option Addr) (len cap : Nat) (lst : List Pk) (fl : Int) (tk N : Nat) (hN : tk + 1 = N) (htk : tk ≤ 2000) (hfl : ¬ fl < -1) (w : World) (h : PkR w a len cap lst) (hv : vcode lst = 0) :
    CallsIn Fence.wide 8 Try.prog 42 #[.slice a len cap, .int .i64 fl, .int .i64 tk] w fun e w' => ∃ cs : Nat, e = .returned (.tuple #[.slice (some ⟨cs, 0, none⟩) N N, .int .i64 0]) ∧ Below w.heap.size w w' ∧ w.heap.size ≤ cs ∧ SumB w' cs N (fun k => sumG (bytT k) (sel fl lst)) := by
  have H := Lib.hid h
  have HV := Lib.hid hv
  clear h hv
  have hro : Fence.wide.round = none := rfl
  have h1 : 1 ≤ 8 := by omega
  have hd1 : decide (fl < -1) = false := decide_eq_false hfl
  have ht1 : ¬ (tk : Int) < 0 := by omega
  have ht2 : ¬ (2000 : Int) < (tk : Int) := by omega
  have hNI : (tk : Int) + 1 = (N : Int) := by omega
  have hN2 : N ≤ 2001 := by omega
  have HN := Lib.hid hN
  have hmk : ∀ u : World, (Instr.makeSlice 22 (.int .i64 (N : Nat)) (.int .i64 (N : Nat))).run Try.prog u = .ok (.slice (some ⟨u.heap.size, 0, none⟩) N N) (u.alloc (.cells (madeCells #[.int .i64 0] N) 3)) := fun u => make13 N (by omega) u
  clear hN
  have ho : (decide ((tk : Int) < 0) || decide (2000 < (tk : Int))) = false := by simp; omega
  refine callsIn_of_wp_marks Try.func42 rfl trivial ?_ hro
  simp only [Try.ntmps42, List.size_toArray, List.length_cons, List.length_nil, Nat.reduceAdd, Nat.reduceSub, Array.replicate_succ, Array.replicate_zero, List.push_toArray, List.append_toArray, List.nil_append, List.cons_append]
  gi_wp2_with (first
    | (refine ⟨trivial, ?_⟩; gi_at_call 35; refine (callsIn_wide.2 (validate_any a len cap lst 0 HV.out _ (H.out.under ((Below.refl _ _).alloc (Nat.le_refl _) _)))).mono ?_; rintro e w1 ⟨rfl, hb⟩; have HB := Lib.hid hb; have cT := (hb.cell (p := ⟨w.heap.size, 0, none⟩) (by simp)).trans (Boxed.new w 3 (.int .i64 tk)).cell; clear hb)
    | (refine ⟨trivial, ?_⟩; gi_at_call 87; refine (callsIn_wide.2 (outside13 tk 0 2000 false ho _)).mono ?_; rintro e w1 ⟨rfl, rfl⟩)
    | (refine ⟨trivial, ?_⟩; gi_at_call 94; refine (packets_in Fence.wide _ trivial hro _ _ _ _ _).mono ?_; rintro e w2 ⟨rfl, rfl⟩))
  have hv := vcode_ok HV.out
  have hl60 : len ≤ 60 := by rw [← H.out.len]; exact hv.1
  have hsz1 := HB.out.size
  rw [World.size_alloc] at hsz1
  have bM := ((SumB.made w1 N).alloc (.cells #[.slice (some ⟨w1.heap.size, 0, none⟩) N N] 22)).alloc (.cells #[.slice a len cap] 45) |>.alloc (.cells #[.int .i64 fl] 3)
  have b9 := ((Boxed.new (w1.alloc (.cells (madeCells #[.int .i64 0] N) 3)) 22 (.slice (some ⟨w1.heap.size, 0, none⟩) N N)).alloc (.cells #[.slice a len cap] 45)).alloc (.cells #[.int .i64 fl] 3)
  have bL := (Boxed.new ((w1.alloc (.cells (madeCells #[.int .i64 0] N) 3)).alloc (.cells #[.slice (some ⟨w1.heap.size, 0, none⟩) N N] 22)) 45 (.slice a len cap)).alloc (.cells #[.int .i64 fl] 3)
  have bF := Boxed.new (((w1.alloc (.cells (madeCells #[.int .i64 0] N) 3)).alloc (.cells #[.slice (some ⟨w1.heap.size, 0, none⟩) N N] 22)).alloc (.cells #[.slice a len cap] 45)) 3 (.int .i64 fl)
  simp only [World.size_alloc] at b9 bL bF
  have hB0 : Below w1.heap.size w1 ((((w1.alloc (.cells (madeCells #[.int .i64 0] N) 3)).alloc (.cells #[.slice (some ⟨w1.heap.size, 0, none⟩) N N] 22)).alloc (.cells #[.slice a len cap] 45)).alloc (.cells #[.int .i64 fl] 3)) := ((((Below.refl _ w1).alloc (Nat.le_refl _) _).alloc (by simp) _).alloc (by simp; omega) _).alloc (by simp; omega) _
  have hsz : ((((w1.alloc (.cells (madeCells #[.int .i64 0] N) 3)).alloc (.cells #[.slice (some ⟨w1.heap.size, 0, none⟩) N N] 22)).alloc (.cells #[.slice a len cap] 45)).alloc (.cells #[.int .i64 fl] 3)).heap.size = w1.heap.size + 4 := by simp
  obtain ⟨W0, hW0⟩ : ∃ W0, (((w1.alloc (.cells (madeCells #[.int .i64 0] N) 3)).alloc (.cells #[.slice (some ⟨w1.heap.size, 0, none⟩) N N] 22)).alloc (.cells #[.slice a len cap] 45)).alloc (.cells #[.int .i64 fl] 3) = W0 := ⟨_, rfl⟩
  rw [hW0] at bM b9 bL bF hB0 hsz ⊢
  clear hW0
  have hBw : Below w.heap.size w w1 := ((Below.refl _ w).alloc (Nat.le_refl _) _).trans (HB.out.mono (by simp))
  have HW := Lib.hid (And.intro hBw hB0)
  have HSZ := Lib.hid hsz
  refine wpIn_rangeFunc_ownH hro h1 (gf := 149) (lb := #[.pointer (some ⟨w1.heap.size + 1 + 1 + 1, 0, none⟩), .pointer (some ⟨w1.heap.size + 1 + 1, 0, none⟩)]) rfl trivial (enters_of Try.func149 (by kernel_rfl) rfl)
    (packets_stops2 Fence.wide (8 - 1) trivial hro (by omega) (w1.heap.size + 1 + 1 + 1) (w1.heap.size + 1 + 1) (w1.heap.size + 4) w1.heap.size fl a len cap lst W0 (by omega) (by omega) (by omega) (by omega) (by omega) bF.cell bL.cell ((H.out.under hBw).under hB0)
      (fun B off ha hl => by
        rcases H.out.place with ⟨h0, _⟩ | ⟨B', off', ha', hc'⟩
        · omega
        · rw [ha] at ha'; cases ha'
          have := hc'.lt (List.getElem?_eq_getElem (show 0 < lst.length by rw [H.out.len]; omega))
          omega)) bbK_t (bbK_b (by omega)) (Below.refl _ _) (fun _ => rfl)
    (fun pre W => SumB W w1.heap.size N (cntF (vals13 pre)) ∧ BB (w1.heap.size + 4) w1.heap.size W0 W)
    (fun _ _ _ => False)
    (OwnFrom.and (Own.from (sumB_own _) _) (ownFrom_bb (by omega) (by omega)))
    (fun _ _ _ _ _ hs _ _ => hs)
    ⟨bM, BB.refl _ _ _⟩
    (fun x a' W => ∃ Bx, w1.heap.size + 3 < Bx ∧ PkBox W Bx x.1 ∧ a' = { tmps := #[.slice a len cap, .int .i64 fl, .int .i64 tk, undef, undef, .pointer (some ⟨w.heap.size, 0, none⟩), .slice none 0 0, .int .i64 0, .int .i64 0, .pointer (some ⟨w1.heap.size + 1, 0, none⟩), .pointer (some ⟨Bx, 0, none⟩), undef, .slice a len cap, .int .i64 0, .int .i64 0, .bool false, undef, .int .i64 fl, .bool false, .bool false, .int .i64 tk, .bool false, .bool false, .int .i64 tk, .int .i64 (N : Nat), .slice (some ⟨w1.heap.size, 0, none⟩) N N, .slice a len cap, .int .i64 fl, .func (.func 149) #[] #[.pointer (some ⟨w1.heap.size + 1 + 1 + 1, 0, none⟩), .pointer (some ⟨w1.heap.size + 1 + 1, 0, none⟩)], .agg #[.int .i64 x.1.f, .int .i64 x.1.t, .int .i64 x.1.s], undef, undef, undef, undef, undef, undef, undef, undef, undef, undef, undef, undef, undef, undef, undef, undef, undef, undef, undef, undef, undef, undef, undef, undef, undef, undef, undef, undef, undef, undef, undef], defers := [] })
    (fun x a' _ X Y row hs hg hr => by obtain ⟨Bx, h1, h2, h3⟩ := hs; exact ⟨Bx, h1, pkBox_own (β := Unit) Bx x.1 () X Y row h2 hg (fun r e => (hr r e).2), h3⟩)
    ?assign ?body ?done ?stop
  case assign =>
    rintro l pre x W K ⟨bS1, hB1⟩ hK
    gi_wp2
    have hz := hB1.size
    exact hK _ _ ((KeepsOthers.alloc _ _).from _) ((BB.refl _ _ _).alloc (by omega) _) ⟨bS1.alloc _, hB1.alloc (by omega) _⟩ ⟨W.heap.size, by omega, PkBox.new W x.1, rfl⟩
  case body =>
    rintro l pre x a' W hl ⟨r, hr⟩ ⟨bS1, hB1⟩ ⟨Bx, hBx, bX, rfl⟩ hlt
    have cT' := (hB1.cell (p := ⟨w.heap.size, 0, none⟩) (by show w.heap.size < _; omega) (by show w.heap.size ≠ _; omega)).trans ((HW.out.2.cell (p := ⟨w.heap.size, 0, none⟩) (by show w.heap.size < _; omega)).trans cT)
    have c9 := (hB1.cell (p := ⟨w1.heap.size + 1, 0, none⟩) (by show w1.heap.size + 1 < _; omega) (by show w1.heap.size + 1 ≠ _; omega)).trans b9.cell
    obtain ⟨x0, x1, x2⟩ := bX.cells
    have hok := (okP_iff x.1).1 (hv.2.1 x.1 x.2)
    have hbd := cntF_bd (l := vals13 pre) (fun q hq => hv.2.1 q (vals13_mem hq)) (by rw [vals13_len]; omega)
    obtain ⟨j, hj⟩ : ∃ j : Nat, x.1.t = (j : Int) := ⟨x.1.t.toNat, by omega⟩
    rw [hj] at x1
    have HX := Lib.hid (And.intro hj hok)
    have hx2 : 1 ≤ x.1.s ∧ x.1.s ≤ 1500 := by omega
    obtain ⟨hx3, hx4⟩ := hx2
    have HBS := Lib.hid (And.intro bS1 hB1)
    clear hr hlt b9 bL bF bM hB0 hBw bX hv hj hok hl60 hsz1
    by_cases hx : j < tk
    · have hxI : (j : Int) < (tk : Int) := by omega
      obtain ⟨m, hm⟩ : ∃ m : Nat, j + 1 = m := ⟨_, rfl⟩
      have eJ : (j : Int) + 1 = (m : Int) := by omega
      have hmN' : m < N := by have := HN.out; omega
      have hmN : (m : Int) < (N : Int) := by omega
      have hwm : IntKind.i64.wrap (m : Int) = (m : Int) := IntWalk.i64_in _ ⟨by omega, by omega⟩
      have cS := bS1.cell hmN'
      have fS := bS1.frozen
      obtain ⟨q1, q2⟩ := hbd m
      obtain ⟨c, hc⟩ : ∃ c, cntF (vals13 pre) m = c := ⟨_, rfl⟩
      rw [hc] at cS q1 q2
      have HC := Lib.hid (And.intro hc (And.intro hm hmN'))
      clear hm hmN'
      clear bS1 hB1 hbd hc
      have hwc : IntKind.i64.wrap (c + x.1.s) = c + x.1.s := IntWalk.i64_in _ ⟨by omega, by omega⟩
      have hmx : Try.prog.follows .mixedOrders = true := by kernel_rfl
      gi_wp2
      refine wpIn_region_inv 34 10 (fun ts listed wx => ∃ t34 t35 t36 t37 t38 t39 t40 t41 t42 t43 : Value, ts = [t34, t35, t36, t37, t38, t39, t40, t41, t42, t43] ∧ (listed.getD 0 false = true → t34 = .slice (some ⟨w1.heap.size, 0, none⟩) N N) ∧ (listed.getD 1 false = true → t35 = .pointer (some ⟨Bx, 1, none⟩)) ∧ (listed.getD 2 false = true → t36 = .int .i64 (j : Nat)) ∧ (listed.getD 3 false = true → t37 = .int .i64 (m : Nat)) ∧ (listed.getD 4 false = true → t38 = .pointer (some ⟨w1.heap.size, m, none⟩)) ∧ (listed.getD 5 false = true → t39 = .int .i64 c) ∧ (listed.getD 6 false = true → t40 = .pointer (some ⟨Bx, 2, none⟩)) ∧ (listed.getD 7 false = true → t41 = .int .i64 x.1.s) ∧ (listed.getD 8 false = true → t42 = .int .i64 (c + x.1.s)) ∧ (listed.getD 9 false = true → t43 = .pointer (some ⟨w1.heap.size, m, none⟩)) ∧ (listed.getD 10 false = false → wx = W.drew) ∧ (listed.getD 10 false = true → (∀ q, q < 10 → listed.getD q false = true) ∧ wx = (W.setCell ⟨w1.heap.size, m, none⟩ (.int .i64 (c + x.1.s))).drew)) (by kernel_rfl) (by kernel_rfl) (by kernel_rfl) ?h0 ?hstep ?hdone
      case h0 =>
        exact ⟨_, _, _, _, _, _, _, _, _, _, rfl, (fun h => absurd h (by decide)), (fun h => absurd h (by decide)), (fun h => absurd h (by decide)), (fun h => absurd h (by decide)), (fun h => absurd h (by decide)), (fun h => absurd h (by decide)), (fun h => absurd h (by decide)), (fun h => absurd h (by decide)), (fun h => absurd h (by decide)), (fun h => absurd h (by decide)), (fun _ => rfl), (fun h => absurd h (by decide))⟩
      case hstep =>
        refine StepsN.cons (j := 1) rfl ?s0 (StepsN.cons (j := 2) rfl ?s1 (StepsN.cons (j := 3) rfl ?s2 (StepsN.cons (j := 4) rfl ?s3 (StepsN.cons (j := 5) rfl ?s4 (StepsN.cons (j := 6) rfl ?s5 (StepsN.cons (j := 7) rfl ?s6 (StepsN.cons (j := 8) rfl ?s7 (StepsN.cons (j := 9) rfl ?s8 (StepsN.cons (j := 10) rfl ?s9 (StepsN.cons (j := 11) rfl ?s10 (StepsN.nil)))))))))))
        case s0 =>
          intro listed ts wx hi hall hI K hK
          obtain ⟨t34, t35, t36, t37, t38, t39, t40, t41, t42, t43, hts, h0, h1, h2, h3, h4, h5, h6, h7, h8, h9, hU, hV⟩ := hI
          have hn : listed.getD 10 false = false := by
            cases hb : listed.getD 10 false with
            | false => rfl
            | true => have := (hV hb).1 0 (by decide); rw [getD_tf this] at hi; cases hi
          obtain rfl := hU hn
          clear hU
          subst hts
          simp only [putL, Act.put, List.getElem_toArray, List.getElem_cons_zero, List.getElem_cons_succ, List.setIfInBounds_toArray, List.set_cons_zero, List.set_cons_succ]
          go_simp
          have hk := hK.out [_, t35, t36, t37, t38, t39, t40, t41, t42, t43] _ ⟨_, t35, t36, t37, t38, t39, t40, t41, t42, t43, rfl, (fun _ => rfl), (keepV h1 (by decide)), (keepV h2 (by decide)), (keepV h3 (by decide)), (keepV h4 (by decide)), (keepV h5 (by decide)), (keepV h6 (by decide)), (keepV h7 (by decide)), (keepV h8 (by decide)), (keepV h9 (by decide)), (fun _ => rfl), (fun h => absurd (show listed.getD 10 false = true from by rwa [getDf_ne (by decide)] at h) (by rw [hn]; decide))⟩
          simp only [putL, Act.put, List.getElem_toArray, List.getElem_cons_zero, List.getElem_cons_succ, List.setIfInBounds_toArray, List.set_cons_zero, List.set_cons_succ] at hk
          exact hk
        case s1 =>
          intro listed ts wx hi hall hI K hK
          obtain ⟨t34, t35, t36, t37, t38, t39, t40, t41, t42, t43, hts, h0, h1, h2, h3, h4, h5, h6, h7, h8, h9, hU, hV⟩ := hI
          have hn : listed.getD 10 false = false := by
            cases hb : listed.getD 10 false with
            | false => rfl
            | true => have := (hV hb).1 1 (by decide); rw [getD_tf this] at hi; cases hi
          obtain rfl := hU hn
          clear hU
          subst hts
          simp only [putL, Act.put, List.getElem_toArray, List.getElem_cons_zero, List.getElem_cons_succ, List.setIfInBounds_toArray, List.set_cons_zero, List.set_cons_succ]
          go_simp
          have hk := hK.out [t34, _, t36, t37, t38, t39, t40, t41, t42, t43] _ ⟨t34, _, t36, t37, t38, t39, t40, t41, t42, t43, rfl, (keepV h0 (by decide)), (fun _ => rfl), (keepV h2 (by decide)), (keepV h3 (by decide)), (keepV h4 (by decide)), (keepV h5 (by decide)), (keepV h6 (by decide)), (keepV h7 (by decide)), (keepV h8 (by decide)), (keepV h9 (by decide)), (fun _ => rfl), (fun h => absurd (show listed.getD 10 false = true from by rwa [getDf_ne (by decide)] at h) (by rw [hn]; decide))⟩
          simp only [putL, Act.put, List.getElem_toArray, List.getElem_cons_zero, List.getElem_cons_succ, List.setIfInBounds_toArray, List.set_cons_zero, List.set_cons_succ] at hk
          exact hk
        case s2 =>
          intro listed ts wx hi hall hI K hK
          obtain ⟨t34, t35, t36, t37, t38, t39, t40, t41, t42, t43, hts, h0, h1, h2, h3, h4, h5, h6, h7, h8, h9, hU, hV⟩ := hI
          have hn : listed.getD 10 false = false := by
            cases hb : listed.getD 10 false with
            | false => rfl
            | true => have := (hV hb).1 2 (by decide); rw [getD_tf this] at hi; cases hi
          obtain rfl := hU hn
          clear hU
          subst hts
          simp only [putL, Act.put, List.getElem_toArray, List.getElem_cons_zero, List.getElem_cons_succ, List.setIfInBounds_toArray, List.set_cons_zero, List.set_cons_succ]
          have d1 : listed.getD 1 false = true := hall ⟨1, Ground.data⟩ (by simp) (by rfl)
          obtain rfl := h1 d1
          go_simp
          have hk := hK.out [t34, _, _, t37, t38, t39, t40, t41, t42, t43] _ ⟨t34, _, _, t37, t38, t39, t40, t41, t42, t43, rfl, (keepV h0 (by decide)), (keepV h1 (by decide)), (fun _ => rfl), (keepV h3 (by decide)), (keepV h4 (by decide)), (keepV h5 (by decide)), (keepV h6 (by decide)), (keepV h7 (by decide)), (keepV h8 (by decide)), (keepV h9 (by decide)), (fun _ => rfl), (fun h => absurd (show listed.getD 10 false = true from by rwa [getDf_ne (by decide)] at h) (by rw [hn]; decide))⟩
          simp only [putL, Act.put, List.getElem_toArray, List.getElem_cons_zero, List.getElem_cons_succ, List.setIfInBounds_toArray, List.set_cons_zero, List.set_cons_succ] at hk
          exact hk
        case s3 =>
          intro listed ts wx hi hall hI K hK
          obtain ⟨t34, t35, t36, t37, t38, t39, t40, t41, t42, t43, hts, h0, h1, h2, h3, h4, h5, h6, h7, h8, h9, hU, hV⟩ := hI
          have hn : listed.getD 10 false = false := by
            cases hb : listed.getD 10 false with
            | false => rfl
            | true => have := (hV hb).1 3 (by decide); rw [getD_tf this] at hi; cases hi
          obtain rfl := hU hn
          clear hU
          subst hts
          simp only [putL, Act.put, List.getElem_toArray, List.getElem_cons_zero, List.getElem_cons_succ, List.setIfInBounds_toArray, List.set_cons_zero, List.set_cons_succ]
          have d2 : listed.getD 2 false = true := hall ⟨2, Ground.data⟩ (by simp) (by rfl)
          obtain rfl := h2 d2
          go_simp
          have hk := hK.out [t34, t35, _, _, t38, t39, t40, t41, t42, t43] _ ⟨t34, t35, _, _, t38, t39, t40, t41, t42, t43, rfl, (keepV h0 (by decide)), (keepV h1 (by decide)), (keepV h2 (by decide)), (fun _ => rfl), (keepV h4 (by decide)), (keepV h5 (by decide)), (keepV h6 (by decide)), (keepV h7 (by decide)), (keepV h8 (by decide)), (keepV h9 (by decide)), (fun _ => rfl), (fun h => absurd (show listed.getD 10 false = true from by rwa [getDf_ne (by decide)] at h) (by rw [hn]; decide))⟩
          simp only [putL, Act.put, List.getElem_toArray, List.getElem_cons_zero, List.getElem_cons_succ, List.setIfInBounds_toArray, List.set_cons_zero, List.set_cons_succ] at hk
          exact hk
        case s4 =>
          intro listed ts wx hi hall hI K hK
          obtain ⟨t34, t35, t36, t37, t38, t39, t40, t41, t42, t43, hts, h0, h1, h2, h3, h4, h5, h6, h7, h8, h9, hU, hV⟩ := hI
          have hn : listed.getD 10 false = false := by
            cases hb : listed.getD 10 false with
            | false => rfl
            | true => have := (hV hb).1 4 (by decide); rw [getD_tf this] at hi; cases hi
          obtain rfl := hU hn
          clear hU
          subst hts
          simp only [putL, Act.put, List.getElem_toArray, List.getElem_cons_zero, List.getElem_cons_succ, List.setIfInBounds_toArray, List.set_cons_zero, List.set_cons_succ]
          have d0 : listed.getD 0 false = true := hall ⟨0, Ground.data⟩ (by simp) (by rfl)
          obtain rfl := h0 d0
          have d3 : listed.getD 3 false = true := hall ⟨3, Ground.data⟩ (by simp) (by rfl)
          obtain rfl := h3 d3
          go_simp
          have hk := hK.out [_, t35, t36, _, _, t39, t40, t41, t42, t43] _ ⟨_, t35, t36, _, _, t39, t40, t41, t42, t43, rfl, (keepV h0 (by decide)), (keepV h1 (by decide)), (keepV h2 (by decide)), (keepV h3 (by decide)), (fun _ => rfl), (keepV h5 (by decide)), (keepV h6 (by decide)), (keepV h7 (by decide)), (keepV h8 (by decide)), (keepV h9 (by decide)), (fun _ => rfl), (fun h => absurd (show listed.getD 10 false = true from by rwa [getDf_ne (by decide)] at h) (by rw [hn]; decide))⟩
          simp only [putL, Act.put, List.getElem_toArray, List.getElem_cons_zero, List.getElem_cons_succ, List.setIfInBounds_toArray, List.set_cons_zero, List.set_cons_succ] at hk
          exact hk
        case s5 =>
          intro listed ts wx hi hall hI K hK
          obtain ⟨t34, t35, t36, t37, t38, t39, t40, t41, t42, t43, hts, h0, h1, h2, h3, h4, h5, h6, h7, h8, h9, hU, hV⟩ := hI
          have hn : listed.getD 10 false = false := by
            cases hb : listed.getD 10 false with
            | false => rfl
            | true => have := (hV hb).1 5 (by decide); rw [getD_tf this] at hi; cases hi
          obtain rfl := hU hn
          clear hU
          subst hts
          simp only [putL, Act.put, List.getElem_toArray, List.getElem_cons_zero, List.getElem_cons_succ, List.setIfInBounds_toArray, List.set_cons_zero, List.set_cons_succ]
          have d4 : listed.getD 4 false = true := hall ⟨4, Ground.data⟩ (by simp) (by rfl)
          obtain rfl := h4 d4
          go_simp
          have hk := hK.out [t34, t35, t36, t37, _, _, t40, t41, t42, t43] _ ⟨t34, t35, t36, t37, _, _, t40, t41, t42, t43, rfl, (keepV h0 (by decide)), (keepV h1 (by decide)), (keepV h2 (by decide)), (keepV h3 (by decide)), (keepV h4 (by decide)), (fun _ => rfl), (keepV h6 (by decide)), (keepV h7 (by decide)), (keepV h8 (by decide)), (keepV h9 (by decide)), (fun _ => rfl), (fun h => absurd (show listed.getD 10 false = true from by rwa [getDf_ne (by decide)] at h) (by rw [hn]; decide))⟩
          simp only [putL, Act.put, List.getElem_toArray, List.getElem_cons_zero, List.getElem_cons_succ, List.setIfInBounds_toArray, List.set_cons_zero, List.set_cons_succ] at hk
          exact hk
        case s6 =>
          intro listed ts wx hi hall hI K hK
          obtain ⟨t34, t35, t36, t37, t38, t39, t40, t41, t42, t43, hts, h0, h1, h2, h3, h4, h5, h6, h7, h8, h9, hU, hV⟩ := hI
          have hn : listed.getD 10 false = false := by
            cases hb : listed.getD 10 false with
            | false => rfl
            | true => have := (hV hb).1 6 (by decide); rw [getD_tf this] at hi; cases hi
          obtain rfl := hU hn
          clear hU
          subst hts
          simp only [putL, Act.put, List.getElem_toArray, List.getElem_cons_zero, List.getElem_cons_succ, List.setIfInBounds_toArray, List.set_cons_zero, List.set_cons_succ]
          go_simp
          have hk := hK.out [t34, t35, t36, t37, t38, t39, _, t41, t42, t43] _ ⟨t34, t35, t36, t37, t38, t39, _, t41, t42, t43, rfl, (keepV h0 (by decide)), (keepV h1 (by decide)), (keepV h2 (by decide)), (keepV h3 (by decide)), (keepV h4 (by decide)), (keepV h5 (by decide)), (fun _ => rfl), (keepV h7 (by decide)), (keepV h8 (by decide)), (keepV h9 (by decide)), (fun _ => rfl), (fun h => absurd (show listed.getD 10 false = true from by rwa [getDf_ne (by decide)] at h) (by rw [hn]; decide))⟩
          simp only [putL, Act.put, List.getElem_toArray, List.getElem_cons_zero, List.getElem_cons_succ, List.setIfInBounds_toArray, List.set_cons_zero, List.set_cons_succ] at hk
          exact hk
        case s7 =>
          intro listed ts wx hi hall hI K hK
          obtain ⟨t34, t35, t36, t37, t38, t39, t40, t41, t42, t43, hts, h0, h1, h2, h3, h4, h5, h6, h7, h8, h9, hU, hV⟩ := hI
          have hn : listed.getD 10 false = false := by
            cases hb : listed.getD 10 false with
            | false => rfl
            | true => have := (hV hb).1 7 (by decide); rw [getD_tf this] at hi; cases hi
          obtain rfl := hU hn
          clear hU
          subst hts
          simp only [putL, Act.put, List.getElem_toArray, List.getElem_cons_zero, List.getElem_cons_succ, List.setIfInBounds_toArray, List.set_cons_zero, List.set_cons_succ]
          have d6 : listed.getD 6 false = true := hall ⟨6, Ground.data⟩ (by simp) (by rfl)
          obtain rfl := h6 d6
          go_simp
          have hk := hK.out [t34, t35, t36, t37, t38, t39, _, _, t42, t43] _ ⟨t34, t35, t36, t37, t38, t39, _, _, t42, t43, rfl, (keepV h0 (by decide)), (keepV h1 (by decide)), (keepV h2 (by decide)), (keepV h3 (by decide)), (keepV h4 (by decide)), (keepV h5 (by decide)), (keepV h6 (by decide)), (fun _ => rfl), (keepV h8 (by decide)), (keepV h9 (by decide)), (fun _ => rfl), (fun h => absurd (show listed.getD 10 false = true from by rwa [getDf_ne (by decide)] at h) (by rw [hn]; decide))⟩
          simp only [putL, Act.put, List.getElem_toArray, List.getElem_cons_zero, List.getElem_cons_succ, List.setIfInBounds_toArray, List.set_cons_zero, List.set_cons_succ] at hk
          exact hk
        case s8 =>
          intro listed ts wx hi hall hI K hK
          obtain ⟨t34, t35, t36, t37, t38, t39, t40, t41, t42, t43, hts, h0, h1, h2, h3, h4, h5, h6, h7, h8, h9, hU, hV⟩ := hI
          have hn : listed.getD 10 false = false := by
            cases hb : listed.getD 10 false with
            | false => rfl
            | true => have := (hV hb).1 8 (by decide); rw [getD_tf this] at hi; cases hi
          obtain rfl := hU hn
          clear hU
          subst hts
          simp only [putL, Act.put, List.getElem_toArray, List.getElem_cons_zero, List.getElem_cons_succ, List.setIfInBounds_toArray, List.set_cons_zero, List.set_cons_succ]
          have d5 : listed.getD 5 false = true := hall ⟨5, Ground.data⟩ (by simp) (by rfl)
          obtain rfl := h5 d5
          have d7 : listed.getD 7 false = true := hall ⟨7, Ground.data⟩ (by simp) (by rfl)
          obtain rfl := h7 d7
          go_simp
          have hk := hK.out [t34, t35, t36, t37, t38, _, t40, _, _, t43] _ ⟨t34, t35, t36, t37, t38, _, t40, _, _, t43, rfl, (keepV h0 (by decide)), (keepV h1 (by decide)), (keepV h2 (by decide)), (keepV h3 (by decide)), (keepV h4 (by decide)), (keepV h5 (by decide)), (keepV h6 (by decide)), (keepV h7 (by decide)), (fun _ => rfl), (keepV h9 (by decide)), (fun _ => rfl), (fun h => absurd (show listed.getD 10 false = true from by rwa [getDf_ne (by decide)] at h) (by rw [hn]; decide))⟩
          simp only [putL, Act.put, List.getElem_toArray, List.getElem_cons_zero, List.getElem_cons_succ, List.setIfInBounds_toArray, List.set_cons_zero, List.set_cons_succ] at hk
          exact hk
        case s9 =>
          intro listed ts wx hi hall hI K hK
          obtain ⟨t34, t35, t36, t37, t38, t39, t40, t41, t42, t43, hts, h0, h1, h2, h3, h4, h5, h6, h7, h8, h9, hU, hV⟩ := hI
          have hn : listed.getD 10 false = false := by
            cases hb : listed.getD 10 false with
            | false => rfl
            | true => have := (hV hb).1 9 (by decide); rw [getD_tf this] at hi; cases hi
          obtain rfl := hU hn
          clear hU
          subst hts
          simp only [putL, Act.put, List.getElem_toArray, List.getElem_cons_zero, List.getElem_cons_succ, List.setIfInBounds_toArray, List.set_cons_zero, List.set_cons_succ]
          have d0 : listed.getD 0 false = true := hall ⟨0, Ground.data⟩ (by simp) (by rfl)
          obtain rfl := h0 d0
          have d3 : listed.getD 3 false = true := hall ⟨3, Ground.data⟩ (by simp) (by rfl)
          obtain rfl := h3 d3
          go_simp
          have hk := hK.out [_, t35, t36, _, t38, t39, t40, t41, t42, _] _ ⟨_, t35, t36, _, t38, t39, t40, t41, t42, _, rfl, (keepV h0 (by decide)), (keepV h1 (by decide)), (keepV h2 (by decide)), (keepV h3 (by decide)), (keepV h4 (by decide)), (keepV h5 (by decide)), (keepV h6 (by decide)), (keepV h7 (by decide)), (keepV h8 (by decide)), (fun _ => rfl), (fun _ => rfl), (fun h => absurd (show listed.getD 10 false = true from by rwa [getDf_ne (by decide)] at h) (by rw [hn]; decide))⟩
          simp only [putL, Act.put, List.getElem_toArray, List.getElem_cons_zero, List.getElem_cons_succ, List.setIfInBounds_toArray, List.set_cons_zero, List.set_cons_succ] at hk
          exact hk
        case s10 =>
          intro listed ts wx hi hall hI K hK
          obtain ⟨t34, t35, t36, t37, t38, t39, t40, t41, t42, t43, hts, h0, h1, h2, h3, h4, h5, h6, h7, h8, h9, hU, hV⟩ := hI
          have hn : listed.getD 10 false = false := getD_ff hi
          obtain rfl := hU hn
          clear hU
          subst hts
          simp only [putL, Act.put, List.getElem_toArray, List.getElem_cons_zero, List.getElem_cons_succ, List.setIfInBounds_toArray, List.set_cons_zero, List.set_cons_succ]
          have d8 : listed.getD 8 false = true := hall ⟨8, Ground.data⟩ (by simp) (by rfl)
          obtain rfl := h8 d8
          have d9 : listed.getD 9 false = true := hall ⟨9, Ground.data⟩ (by simp) (by rfl)
          obtain rfl := h9 d9
          have HALL := Lib.hid (show ∀ q, q < 10 → listed.getD q false = true from fun q hq => by
            have : q = 0 ∨ q = 1 ∨ q = 2 ∨ q = 3 ∨ q = 4 ∨ q = 5 ∨ q = 6 ∨ q = 7 ∨ q = 8 ∨ q = 9 := by omega
            rcases this with rfl | rfl | rfl | rfl | rfl | rfl | rfl | rfl | rfl | rfl
            · exact hall ⟨0, Ground.phase⟩ (by simp) (by rfl)
            · exact hall ⟨1, Ground.phase⟩ (by simp) (by rfl)
            · exact hall ⟨2, Ground.phase⟩ (by simp) (by rfl)
            · exact hall ⟨3, Ground.phase⟩ (by simp) (by rfl)
            · exact hall ⟨4, Ground.phase⟩ (by simp) (by rfl)
            · exact hall ⟨5, Ground.phase⟩ (by simp) (by rfl)
            · exact hall ⟨6, Ground.phase⟩ (by simp) (by rfl)
            · exact hall ⟨7, Ground.phase⟩ (by simp) (by rfl)
            · exact hall ⟨8, Ground.data⟩ (by simp) (by rfl)
            · exact hall ⟨9, Ground.data⟩ (by simp) (by rfl))
          go_simp
          have hk := hK.out [t34, t35, t36, t37, t38, t39, t40, t41, _, _] _ ⟨t34, t35, t36, t37, t38, t39, t40, t41, _, _, rfl, (keepV h0 (by decide)), (keepV h1 (by decide)), (keepV h2 (by decide)), (keepV h3 (by decide)), (keepV h4 (by decide)), (keepV h5 (by decide)), (keepV h6 (by decide)), (keepV h7 (by decide)), (keepV h8 (by decide)), (keepV h9 (by decide)), (fun h => absurd h (by rw [getD_set (getD_lt hi)]; decide)), (fun _ => ⟨fun q hq => by rw [getDf_ne (by omega)]; exact HALL.out q hq, rfl⟩)⟩
          simp only [putL, Act.put, List.getElem_toArray, List.getElem_cons_zero, List.getElem_cons_succ, List.setIfInBounds_toArray, List.set_cons_zero, List.set_cons_succ] at hk
          exact hk
      case hdone =>
        intro listed ts wx hA hI
        obtain ⟨t34, t35, t36, t37, t38, t39, t40, t41, t42, t43, rfl, h0, h1, h2, h3, h4, h5, h6, h7, h8, h9, hU, hV⟩ := hI
        obtain ⟨_, rfl⟩ := hV (hA 10 (by decide))
        gi_wp2
        exact ⟨((KeepsOthers.setCell _ _ _).trans (KeepsOthers.drew _)).from _, ((BB.refl _ _ _).set _ _).drew, (show SumB (W.setCell ⟨w1.heap.size, m, none⟩ (.int .i64 (c + x.1.s))) _ _ _ from (HBS.out.1.set HC.out.2.2 (c + x.1.s)).congr (fun k hk => by
          show (if k = m then _ else _) = cntF (vals13 (pre ++ [x])) k
          rw [vals13_snoc, cntF_snoc]
          have := HX.out.1
          have := HC.out.2.1
          unfold cntT
          by_cases e : k = m
          · subst e; rw [if_pos rfl, HC.out.1, if_pos (by omega)]
          · rw [if_neg e, if_neg (by omega), Int.add_zero])), (HBS.out.2.set _ _).drew⟩
    · have hxI : ¬ (j : Int) < (tk : Int) := by omega
      clear bS1 hB1 hbd
      gi_wp2
      exact ⟨(KeepsOthers.refl _).from _, BB.refl _ _ _, HBS.out.1.congr (fun k hk => by rw [vals13_snoc, cntF_snoc]; unfold cntT; rw [if_neg (by have := HX.out.1; omega)]; omega), HBS.out.2⟩
  case done =>
    rintro D zs W hD hzs ⟨bS1, hB1⟩ hK
    have hz : vals13 zs = sel fl lst := hzs
    have hys : ∀ q ∈ sel fl lst, okP q = true := fun q hq => hv.2.1 q (List.mem_filter.1 hq).1
    have hyl : (sel fl lst).length ≤ 60 := Nat.le_trans (sel_le fl lst) hv.1
    rw [hz] at bS1
    have cT' := (hB1.cell (p := ⟨w.heap.size, 0, none⟩) (by show w.heap.size < _; omega) (by show w.heap.size ≠ _; omega)).trans ((HW.out.2.cell (p := ⟨w.heap.size, 0, none⟩) (by show w.heap.size < _; omega)).trans cT)
    have c9 := (hB1.cell (p := ⟨w1.heap.size + 1, 0, none⟩) (by show w1.heap.size + 1 < _; omega) (by show w1.heap.size + 1 ≠ _; omega)).trans b9.cell
    have HYS := Lib.hid (And.intro hys hyl)
    have HK := Lib.hid (And.intro hK hD)
    have HB1 := Lib.hid hB1
    have HS := Lib.hid (show SumB W w1.heap.size N (fun q => if q ≤ 0 then sumG (bytT (q : Int)) (sel fl lst) else cntF (sel fl lst) q) from bS1.congr (fun q _ => by
      show _ = if q ≤ 0 then _ else _
      by_cases c : q ≤ 0
      · rw [if_pos c, show q = 0 by omega, byt_zero hys, cnt_zero hys]
      · rw [if_neg c]))
    have hw1 : w1.heap.size < W.heap.size := bS1.lt
    have hw2 : w.heap.size < w1.heap.size := by omega
    have hw3 : w1.heap.size + 1 < W.heap.size := lt_of_cell c9
    clear hv hl60 hsz1 bM b9 bL bF hB0 hsz hBw hD hzs bS1 hB1 hK hz hys hyl
    gi_wp2
    gi_loopw [45] (fun i wr => ∃ k : Nat, k ≤ tk ∧ i = .int .i64 k ∧ Hid (SumB wr w1.heap.size N (fun q => if q ≤ k then sumG (bytT (q : Int)) (sel fl lst) else cntF (sel fl lst) q)) ∧ Hid (Apart w1.heap.size W wr)) (fun i _ => tk - (intOf i).toNat)
    case atStart => exact ⟨0, Nat.zero_le _, by go_num, HS, Apart.refl _ _⟩
    case round =>
      obtain ⟨k, hk, rfl, hS, hA⟩ := hrel
      obtain ⟨wk, rfl⟩ : ∃ u : World, u = wr := ⟨_, rfl⟩
      obtain ⟨a1, a2⟩ := acell hA.out
      have c9' := (a1 (w1.heap.size + 1) 0 hw3 (by omega)).trans c9
      by_cases hlt : k < tk
      · have hlI : (k : Int) < (tk : Int) := by omega
        obtain ⟨m, hm⟩ : ∃ m : Nat, k + 1 = m := ⟨_, rfl⟩
        have eJ : (k : Int) + 1 = (m : Int) := by omega
        have hmN' : m < N := by have := HN.out; omega
        have hkN' : k < N := by omega
        have hmN : (m : Int) < (N : Int) := by omega
        have hkN : (k : Int) < (N : Int) := by omega
        have hwm : IntKind.i64.wrap (m : Int) = (m : Int) := IntWalk.i64_in _ ⟨by omega, by omega⟩
        have x1 := hS.out.cell hmN'
        have x2 := hS.out.cell hkN'
        rw [if_neg (show ¬ m ≤ k by omega)] at x1
        rw [if_pos (Nat.le_refl k)] at x2
        have fS := hS.out.frozen
        obtain ⟨q1, q2⟩ := cntF_bd HYS.out.1 HYS.out.2 m
        obtain ⟨q3, q4⟩ := byt_bd HYS.out.1 HYS.out.2 (k : Int)
        have hst := byt_step HYS.out.1 k
        obtain ⟨c, hc⟩ : ∃ c, cntF (sel fl lst) m = c := ⟨_, rfl⟩
        obtain ⟨s, hs⟩ : ∃ s, sumG (bytT (k : Int)) (sel fl lst) = s := ⟨_, rfl⟩
        rw [hc] at x1 q1 q2
        rw [hs] at x2 q3 q4
        rw [hm, hs, hc] at hst
        have HC := Lib.hid (And.intro hst (And.intro hm (And.intro hmN' hc)))
        clear hst hm hmN' hkN' hc hs a1 a2
        gi_wp2
        gi_region
        all_goals gi_wp2
        go_roundw
        case rel =>
          refine ⟨m, by have := HC.out.2.1; omega, by go_num, ?_, ?_⟩
          · exact Lib.hid ((hS.out.set HC.out.2.2.1 (c + s)).congr (fun q hq => by
              show (if q = m then c + s else if q ≤ k then _ else _) = if q ≤ m then _ else _
              by_cases e : q = m
              · subst e; rw [if_pos rfl, if_pos (Nat.le_refl _), HC.out.1]; omega
              · rw [if_neg e]
                by_cases e2 : q ≤ k
                · rw [if_pos e2, if_pos (by have := HC.out.2.1; omega)]
                · rw [if_neg e2, if_neg (by have := HC.out.2.1; omega)]))
          · exact Lib.hid (show Apart _ _ _ from (hA.out.trans ((Else.refl _ _).setCell m _).apart).drewN 1)
        case measure => first | (simp [intOf]; done) | (simp [intOf]; omega)
      · obtain rfl : k = tk := by omega
        have hlI : ¬ (k : Int) < (k : Int) := by omega
        gi_wp2
        have hDl : D < W.heap.size := (Array.getElem?_eq_some_iff.1 HK.out.1).1
        have hDM : w1.heap.size ≠ D := by have := HK.out.2; have := HSZ.out; omega
        have hK' : wk.heap[D]? = some (.deferred (some [])) := (hA.out.block D hDl (fun e => hDM e.symm)).trans HK.out.1
        have hBk : Below w.heap.size w wk := (HW.out.1.trans (HW.out.2.mono (by omega))).trans ((HB1.out.below (m := w.heap.size) (by omega) (by omega)).trans (hA.out.below (by omega) (by omega)))
        refine ⟨by simp, .inl ⟨_, _, rfl, run_takeDeferred hK', ?_⟩⟩
        refine ⟨_, by simp [results, Try.results42, go_sem], w1.heap.size, rfl, hBk.trans (belowK_b (w := w) (Nat.le_refl _) wk D _ _ (by have := HK.out.2; have := HSZ.out; omega) hK' rfl rfl), by omega, ?_⟩
        exact (hS.out.of_block (World.putObj_heap_other hDM)).congr (fun q hq => by
          show (if q ≤ _ then _ else _) = _
          rw [if_pos (by have := HN.out; omega)])
  case stop =>
    rintro D c pre W _ _ h _
    exact h.elim
end Go.Proofs.Ytknimlpdpgpliaa
