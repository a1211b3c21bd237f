/- Whether the packets of a flow have more than is allowed behind some tick: excess of package conform. By the verifier's side. -/
import Derived.Test.YtknimlpdpgpliaaFCfB
import Derived.Test.YtknimlpdpgpliaaFPwA
namespace Go.Proofs.Ytknimlpdpgpliaa
open Go.RowKit Go.Shelf
set_option linter.unusedSimpArgs false
set_option linter.unusedVariables false
attribute [local go_sem] Oper.semAt_some

/-- The packets of pairs that have come. -/
def pvs {lst : List Pk} (l : List { q : Int × Pk // q.2 ∈ lst }) : List Pk := l.map (·.1.2)
theorem pvs_snoc {lst : List Pk} (l : List { q : Int × Pk // q.2 ∈ lst }) (x : { q : Int × Pk // q.2 ∈ lst }) : pvs (l ++ [x]) = pvs l ++ [x.1.2] := by unfold pvs; simp
theorem pvs_len {lst : List Pk} (l : List { q : Int × Pk // q.2 ∈ lst }) : (pvs l).length = l.length := by unfold pvs; simp
theorem pvs_mem {lst : List Pk} {l : List { q : Int × Pk // q.2 ∈ lst }} {q : Pk} (h : q ∈ pvs l) : q ∈ lst := by
  obtain ⟨y, _, rfl⟩ := List.mem_map.1 h
  exact y.2
theorem exB_snoc (E : Nat → Int) (e : Int) (x : Pk) : ∀ (l : List Pk) (s : Int), exB E e s l = none → exB E e s (l ++ [x]) = if E (e - x.t).toNat < s + sumG Pk.s l + x.s then some x.t else none
  | [], s, _ => by show exB E e s [x] = _; unfold exB; rw [show s + sumG Pk.s [] + x.s = s + x.s by simp [sumG]]; rfl
  | y :: r, s, h => by
    unfold exB at h
    rw [List.cons_append]
    show (if E (e - y.t).toNat < s + y.s then some y.t else exB E e (s + y.s) (r ++ [x])) = _
    by_cases c : E (e - y.t).toNat < s + y.s
    · rw [if_pos c] at h; cases h
    · rw [if_neg c] at h
      rw [if_neg c, exB_snoc E e x r _ h]
      show (if _ < s + y.s + sumG Pk.s r + x.s then _ else _) = if _ < s + (y.s + sumG Pk.s r) + x.s then _ else _
      rw [show s + (y.s + sumG Pk.s r) + x.s = s + y.s + sumG Pk.s r + x.s by omega]
theorem exB_pre (E : Nat → Int) (e : Int) (v : Int) : ∀ (l r : List Pk) (s : Int), exB E e s l = some v → exB E e s (l ++ r) = some v
  | [], r, s, h => by cases h
  | y :: l, r, s, h => by
    unfold exB at h
    rw [List.cons_append]
    show (if E (e - y.t).toNat < s + y.s then some y.t else exB E e (s + y.s) (l ++ r)) = _
    by_cases c : E (e - y.t).toNat < s + y.s
    · rw [if_pos c] at h ⊢; exact h
    · rw [if_neg c] at h ⊢; exact exB_pre E e v l r _ h

theorem BB.drewN13 {n b : Nat} {A B : World} (h : BB n b A B) (m : Nat) : BB n b A (B.drewN m) := ⟨h.os, h.tape, h.output, h.size, h.block⟩
theorem KeepsOthers.drewN13 (W : World) (m : Nat) : KeepsOthers W (W.drewN m) := ⟨Nat.le_refl _, fun _ _ h _ => h⟩
theorem boxed_bb {n b K : Nat} {A B : World} {t : TypeId} {v : Value} (h : Boxed A K t v) (hb : BB n b A B) (h1 : K < n) (h2 : K ≠ b) : Boxed B K t v := (hb.block K h1 h2).trans h
/-- What excess hands back. -/
def GivesEx (o : Option Int) (w : World) (e : Ending) (w' : World) : Prop := e = .returned (.tuple #[.int .i64 (o.getD 0), .bool o.isSome]) ∧ Below w.heap.size w w'

set_option maxRecDepth 100000 in
set_option maxHeartbeats 4000000 in
theorem excess_in (a : Option Addr) (len cap : Nat) (lst ls0 : List Pk) (q : Pk) (hlq : lst = ls0 ++ [q]) (hl61 : len ≤ 61) (hok : ∀ x ∈ lst, okP x = true ∧ x.t ≤ q.t) (B : Nat) (E : Nat → Int) (w : World) (h : PkR w a len cap lst)
    (hcl : ClosG 152 #[.pointer (some ⟨B + 1, 0, none⟩), .pointer (some ⟨B, 0, none⟩)] 4194304 E w) :
    CallsIn Fence.wide 8 Try.prog 100 #[.slice a len cap, closPV B] w (GivesEx (exc14 E lst) w) := by
  have hro : Fence.wide.round = none := rfl
  have h1 : 1 ≤ 8 := by omega
  have hlen := h.len
  obtain ⟨k, rfl⟩ : ∃ k, len = k + 1 := ⟨ls0.length, by rw [← hlen, hlq, List.length_append]; rfl⟩
  have hk0 : ls0.length = k := by rw [hlq, List.length_append, List.length_singleton] at hlen; omega
  obtain ⟨B0, off, q', ha, hcs, hq', hbd⟩ := h.at (k := k) (by omega)
  obtain rfl : q' = q := by
    rw [hlq, List.getElem?_append_right (by omega), hk0, Nat.sub_self] at hq'
    cases hq'; rfl
  obtain ⟨c0, c1, c2⟩ := hcs k q' hq'
  obtain ⟨hq1, hq2⟩ : 0 ≤ q'.t ∧ q'.t ≤ 2000 := by
    have := (okP_iff q').1 (hok q' (List.mem_of_getElem? hq')).1
    omega
  have hEX : exc14 E lst = exB E (q'.t + 1) 0 lst.reverse := by rw [hlq, exc14_snoc, List.reverse_append]; rfl
  have HX := Lib.hid (And.intro hEX (And.intro hok (And.intro hcs hcl)))
  have H := Lib.hid h
  have hwt : IntKind.i64.wrap (q'.t + 1) = q'.t + 1 := IntWalk.i64_in _ ⟨by omega, by omega⟩
  have hcast : ((k + 1 : Nat) : Int) - 1 = (k : Int) := by omega
  have hki : (k : Int) < ((k + 1 : Nat) : Int) := by omega
  have hB0w : B0 < w.heap.size := lt_of_cell c0
  have c1a : ∀ (o1 o2 o3 : Obj), (((w.alloc o1).alloc o2).alloc o3).cell? ⟨B0, off + k * 3 + 1, none⟩ = some (.int .i64 q'.t) := fun o1 o2 o3 =>
    ((((Below.refl _ w).alloc (Nat.le_refl _) o1).alloc (by simp) o2).alloc (by simp; omega) o3).cell hB0w |>.trans c1
  clear h hlq hEX hok hcs hcl hq' hbd c0 c2 hk0 hlen
  subst ha
  refine callsIn_of_wp_marks Try.func100 rfl trivial ?_ hro
  simp only [Try.ntmps100, List.size_toArray, List.length_cons, List.length_nil, Nat.reduceAdd, Nat.reduceSub, Array.replicate_succ, Array.replicate_zero, List.push_toArray, List.append_toArray, List.nil_append, List.cons_append]
  gi_wp2_with (refine ⟨trivial, ?_⟩; gi_at_call 153; refine (backward_in Fence.wide _ trivial hro _ _ _ _).mono ?_; rintro e w2 ⟨rfl, rfl⟩)
  have bA := (((((Boxed.new w 51 (closPV B)).alloc (.cells #[.int .i64 0] 3)).alloc (.cells #[.bool false] 4)).alloc (.cells #[.int .i64 (q'.t + 1)] 3)).alloc (.cells #[.int .i64 0] 3)).alloc (.cells #[.slice (some ⟨B0, off, none⟩) (k + 1) cap] 45)
  have bR := ((((Boxed.new (w.alloc (.cells #[closPV B] 51)) 3 (.int .i64 0)).alloc (.cells #[.bool false] 4)).alloc (.cells #[.int .i64 (q'.t + 1)] 3)).alloc (.cells #[.int .i64 0] 3)).alloc (.cells #[.slice (some ⟨B0, off, none⟩) (k + 1) cap] 45)
  have bO := (((Boxed.new ((w.alloc (.cells #[closPV B] 51)).alloc (.cells #[.int .i64 0] 3)) 4 (.bool false)).alloc (.cells #[.int .i64 (q'.t + 1)] 3)).alloc (.cells #[.int .i64 0] 3)).alloc (.cells #[.slice (some ⟨B0, off, none⟩) (k + 1) cap] 45)
  have bE := ((Boxed.new (((w.alloc (.cells #[closPV B] 51)).alloc (.cells #[.int .i64 0] 3)).alloc (.cells #[.bool false] 4)) 3 (.int .i64 (q'.t + 1))).alloc (.cells #[.int .i64 0] 3)).alloc (.cells #[.slice (some ⟨B0, off, none⟩) (k + 1) cap] 45)
  have bS := (Boxed.new ((((w.alloc (.cells #[closPV B] 51)).alloc (.cells #[.int .i64 0] 3)).alloc (.cells #[.bool false] 4)).alloc (.cells #[.int .i64 (q'.t + 1)] 3)) 3 (.int .i64 0)).alloc (.cells #[.slice (some ⟨B0, off, none⟩) (k + 1) cap] 45)
  have bL := Boxed.new (((((w.alloc (.cells #[closPV B] 51)).alloc (.cells #[.int .i64 0] 3)).alloc (.cells #[.bool false] 4)).alloc (.cells #[.int .i64 (q'.t + 1)] 3)).alloc (.cells #[.int .i64 0] 3)) 45 (.slice (some ⟨B0, off, none⟩) (k + 1) cap)
  simp only [World.size_alloc] at bR bO bE bS bL
  have hB0 : Below w.heap.size w ((((((w.alloc (.cells #[closPV B] 51)).alloc (.cells #[.int .i64 0] 3)).alloc (.cells #[.bool false] 4)).alloc (.cells #[.int .i64 (q'.t + 1)] 3)).alloc (.cells #[.int .i64 0] 3)).alloc (.cells #[.slice (some ⟨B0, off, none⟩) (k + 1) cap] 45)) := ((((((Below.refl _ w).alloc (Nat.le_refl _) (.cells #[closPV B] 51)).alloc (by simp) (.cells #[.int .i64 0] 3)).alloc (by simp; omega) (.cells #[.bool false] 4)).alloc (by simp; omega) (.cells #[.int .i64 (q'.t + 1)] 3)).alloc (by simp; omega) (.cells #[.int .i64 0] 3)).alloc (by simp; omega) (.cells #[.slice (some ⟨B0, off, none⟩) (k + 1) cap] 45)
  have hsz : ((((((w.alloc (.cells #[closPV B] 51)).alloc (.cells #[.int .i64 0] 3)).alloc (.cells #[.bool false] 4)).alloc (.cells #[.int .i64 (q'.t + 1)] 3)).alloc (.cells #[.int .i64 0] 3)).alloc (.cells #[.slice (some ⟨B0, off, none⟩) (k + 1) cap] 45)).heap.size = w.heap.size + 6 := by simp
  obtain ⟨W0, hW0⟩ : ∃ W0, ((((((w.alloc (.cells #[closPV B] 51)).alloc (.cells #[.int .i64 0] 3)).alloc (.cells #[.bool false] 4)).alloc (.cells #[.int .i64 (q'.t + 1)] 3)).alloc (.cells #[.int .i64 0] 3)).alloc (.cells #[.slice (some ⟨B0, off, none⟩) (k + 1) cap] 45)) = W0 := ⟨_, rfl⟩
  rw [hW0] at bA bR bO bE bS bL hB0 hsz ⊢
  clear hW0
  have HW := Lib.hid (And.intro (And.intro bA bR) (And.intro bO (And.intro bE hB0)))
  obtain ⟨hok, hcs, hcl⟩ := HX.out.2
  have HCL := Lib.hid hcl
  have HOK := Lib.hid hok
  clear hcl hcs hok
  refine wpIn_rangeFunc_ownH hro h1 (gf := 167) (lb := #[.pointer (some ⟨w.heap.size + 1 + 1 + 1 + 1 + 1, 0, none⟩)]) rfl trivial (enters_of Try.func167 (by kernel_rfl) rfl)
      (backward_stops Fence.wide (8 - 1) trivial hro (by omega) (w.heap.size + 1 + 1 + 1 + 1 + 1) (w.heap.size + 6) (w.heap.size + 1 + 1 + 1 + 1) (some ⟨B0, off, none⟩) (k + 1) cap lst W0 (by omega) (by omega) (by omega) bL.cell (H.out.under hB0)
        (fun B' off' ha hl => by cases ha; omega)) bbK_t (bbK_b (by omega)) (Below.refl _ _) (fun _ => rfl)
      (fun pre W => Boxed W (w.heap.size + 1 + 1 + 1 + 1) 3 (.int .i64 (sumG Pk.s (pvs pre))) ∧ (BB (w.heap.size + 6) (w.heap.size + 1 + 1 + 1 + 1) W0 W ∧ exB E (q'.t + 1) 0 (pvs pre) = none))
      (fun c pre W => c = .ret ∧ ∃ v, exB E (q'.t + 1) 0 (pvs pre) = some v ∧ Boxed W (w.heap.size + 1) 3 (.int .i64 v) ∧ Boxed W (w.heap.size + 1 + 1) 4 (.bool true) ∧ Below w.heap.size w W)
      (OwnFrom.and (Own.from (boxed_own _ _ _) _) (OwnFrom.and (ownFrom_bb (by omega) (by omega)) (fun _ _ _ _ hs _ _ => hs)))
      (fun c s X Y row hs hg hr => by
        obtain ⟨hc, v, hv, g1, g2, g3⟩ := hs
        exact ⟨hc, v, hv, (Own.from (boxed_own (β := Unit) _ _ (fun _ => .int .i64 v)) _) () X Y row g1 hg hr, (Own.from (boxed_own (β := Unit) _ _ (fun _ => .bool true)) _) () X Y row g2 hg hr, (ownFrom_below (β := Unit) (B := W0.heap.size) (Nat.le_refl _) (by omega)) () X Y row g3 hg hr⟩)
      ⟨bS, BB.refl _ _ _, rfl⟩
      (fun x a' W => ∃ Bx, w.heap.size + 5 < Bx ∧ PkBox W Bx x.1.2 ∧ a' = { tmps := #[.slice (some ⟨B0, off, none⟩) (k + 1) cap, closPV B, undef, .pointer (some ⟨w.heap.size, 0, none⟩), .pointer (some ⟨w.heap.size + 1, 0, none⟩), .pointer (some ⟨w.heap.size + 1 + 1, 0, none⟩), .pointer (some ⟨w.heap.size + 1 + 1 + 1, 0, none⟩), .pointer (some ⟨w.heap.size + 1 + 1 + 1 + 1, 0, none⟩), undef, .pointer (some ⟨Bx, 0, none⟩), .slice (some ⟨B0, off, none⟩) (k + 1) cap, .slice (some ⟨B0, off, none⟩) (k + 1) cap, .int .i64 ((k : Nat) + 1), .int .i64 (k : Nat), .pointer (some ⟨B0, off + k * 3, none⟩), .pointer (some ⟨B0, off + k * 3 + 1, none⟩), .int .i64 q'.t, .int .i64 (q'.t + 1), .slice (some ⟨B0, off, none⟩) (k + 1) cap, .func (.func 167) #[] #[.pointer (some ⟨w.heap.size + 1 + 1 + 1 + 1 + 1, 0, none⟩)], .int .i64 x.1.1, .agg #[.int .i64 x.1.2.f, .int .i64 x.1.2.t, .int .i64 x.1.2.s], undef, undef, undef, undef, undef, undef, undef, undef, undef, undef, undef, undef, undef, undef], defers := [] })
      (fun x a' _ X Y row hs hg hr => by obtain ⟨Bx, h1, h2, h3⟩ := hs; exact ⟨Bx, h1, pkBox_own (β := Unit) Bx x.1.2 () X Y row h2 hg (fun r e => (hr r e).2), h3⟩)
      ?assign ?body ?done ?stop
  case assign =>
    rintro l pre x W K ⟨bS1, hB1, hE1⟩ hK
    gi_wp2
    have hz := hB1.size
    exact hK _ _ ((KeepsOthers.alloc _ _).from _) ((BB.refl _ _ _).alloc (by omega) _) ⟨bS1.alloc _, hB1.alloc (by omega) _, hE1⟩ ⟨W.heap.size, by omega, PkBox.new W x.1.2, rfl⟩
  case body =>
    rintro l pre x a' W hl ⟨r, hr⟩ ⟨bS1, hB1, hE1⟩ ⟨Bx, hBx, bX, rfl⟩ hlt
    obtain ⟨hxok, hxt⟩ := HOK.out x.1.2 x.2
    have hxo := (okP_iff x.1.2).1 hxok
    obtain ⟨hx1, hx2⟩ : 0 ≤ x.1.2.t ∧ x.1.2.t ≤ 2000 := by omega
    obtain ⟨hx3, hx4⟩ : 1 ≤ x.1.2.s ∧ x.1.2.s ≤ 1500 := by omega
    have hsb : 0 ≤ sumG Pk.s (pvs pre) ∧ sumG Pk.s (pvs pre) ≤ 100000 := by
      constructor
      · have := sumG_mono (fun _ => 0) Pk.s (pvs pre) (fun y hy => by have := (okP_iff y).1 (HOK.out y (pvs_mem hy)).1; omega)
        rw [sumG_zero] at this; exact this
      · have := sumG_bound Pk.s 1500 (pvs pre) (fun y hy => by have := (okP_iff y).1 (HOK.out y (pvs_mem hy)).1; omega)
        rw [pvs_len] at this
        have h61 : (pre.length : Int) ≤ 61 := by omega
        omega
    have hsn := exB_snoc E (q'.t + 1) x.1.2 (pvs pre) 0 hE1
    rw [← pvs_snoc] at hsn
    obtain ⟨S0, hS0⟩ : ∃ S0, sumG Pk.s (pvs pre) = S0 := ⟨_, rfl⟩
    have hsum : sumG Pk.s (pvs (pre ++ [x])) = S0 + x.1.2.s := by rw [pvs_snoc, sumG_snoc, hS0]
    rw [hS0] at bS1 hsb hsn
    rw [Int.zero_add] at hsn
    obtain ⟨hs1, hs2⟩ := hsb
    have hw1 : IntKind.i64.wrap (S0 + x.1.2.s) = S0 + x.1.2.s := IntWalk.i64_in _ ⟨by omega, by omega⟩
    have hw2 : IntKind.i64.wrap (q'.t + 1 - x.1.2.t) = q'.t + 1 - x.1.2.t := IntWalk.i64_in _ ⟨by omega, by omega⟩
    have cA := (boxed_bb HW.out.1.1 hB1 (by omega) (by omega)).cell
    have cE := (boxed_bb HW.out.2.2.1 hB1 (by omega) (by omega)).cell
    have bR1 := boxed_bb HW.out.1.2 hB1 (by omega) (by omega)
    have bO1 := boxed_bb HW.out.2.1 hB1 (by omega) (by omega)
    obtain ⟨x0, x1, x2⟩ := bX.cells
    have cS := bS1.cell
    have fS := bS1.frozen
    obtain ⟨V, hV⟩ : ∃ V, W.setCell ⟨w.heap.size + 1 + 1 + 1 + 1, 0, none⟩ (.int .i64 (S0 + x.1.2.s)) = V := ⟨_, rfl⟩
    have bS2 : Boxed V (w.heap.size + 1 + 1 + 1 + 1) 3 (.int .i64 (S0 + x.1.2.s)) := by rw [← hV]; exact bS1.set _
    have bA2 : Boxed V (w.heap.size) 51 (closPV B) := by rw [← hV]; exact (boxed_bb HW.out.1.1 hB1 (by omega) (by omega)).other (by omega) _
    have bE2 : Boxed V (w.heap.size + 1 + 1 + 1) 3 (.int .i64 (q'.t + 1)) := by rw [← hV]; exact (boxed_bb HW.out.2.2.1 hB1 (by omega) (by omega)).other (by omega) _
    have bR2 : Boxed V (w.heap.size + 1) 3 (.int .i64 0) := by rw [← hV]; exact bR1.other (by omega) _
    have bO2 : Boxed V (w.heap.size + 1 + 1) 4 (.bool false) := by rw [← hV]; exact bO1.other (by omega) _
    have x1V : V.cell? ⟨Bx, 1, none⟩ = some (.int .i64 x.1.2.t) := by
      rw [← hV]; exact (World.cell?_of_block (a := ⟨Bx, 1, none⟩) (Below.heap_setCell _ _ _ _ (by show Bx ≠ w.heap.size + 1 + 1 + 1 + 1; omega))).trans x1
    have hVW : BB (w.heap.size + 6) (w.heap.size + 1 + 1 + 1 + 1) W V := by rw [← hV]; exact (BB.refl _ _ _).set _ _
    have hKV : KeepsFrom (w.heap.size + 6) W V := by rw [← hV]; exact (KeepsOthers.setCell _ _ _).from _
    have HV1 := Lib.hid (And.intro (hB1.trans hVW) (And.intro hKV hVW))
    have hBV : Below w.heap.size w V := HW.out.2.2.2.trans ((hB1.trans hVW).below (by omega) (by omega))
    have HBV := Lib.hid hBV
    have HSN := Lib.hid (And.intro hsn hsum)
    have HB4 := Lib.hid (And.intro (And.intro bS2 bA2) (And.intro bE2 (And.intro bR2 bO2)))
    clear hxok hxo hE1 hsn hsum hVW hKV hBV bR1 bO1 bS1 hB1 bX hr hlt hS0
    have ev : ∀ (args : Array Value) (w : World), (callFunc 152 args).run Try.prog w = .ok (.enter 152 args) w := enters_of Try.func152 (by kernel_rfl) rfl
    gi_wp2
    try rw [hV]
    have cA2 := HB4.out.1.2.cell
    have cS2 := HB4.out.1.1.cell
    have cE2 := HB4.out.2.1.cell
    by_cases hc : E (q'.t + 1 - x.1.2.t).toNat < S0 + x.1.2.s
    · have HC := Lib.hid hc
      refine wpIn_region_invW 26 8 (fun ts listed wx => ∃ t26 t27 t28 t29 t30 t31 t32 t33 : Value, ts = [t26, t27, t28, t29, t30, t31, t32, t33] ∧ (listed.getD 0 false = true → t26 = .int .i64 (S0 + x.1.2.s)) ∧ (listed.getD 1 false = true → t27 = closPV B) ∧ (listed.getD 2 false = true → t28 = .int .i64 (q'.t + 1)) ∧ (listed.getD 3 false = true → t29 = .pointer (some ⟨Bx, 1, none⟩)) ∧ (listed.getD 4 false = true → t30 = .int .i64 x.1.2.t) ∧ (listed.getD 5 false = true → t31 = .int .i64 (q'.t + 1 - x.1.2.t)) ∧ (listed.getD 6 false = true → t32 = .int .i64 (E (q'.t + 1 - x.1.2.t).toNat)) ∧ (listed.getD 7 false = true → t33 = .bool true) ∧ (∃ m, wx = V.drewN m)) (by kernel_rfl) (by kernel_rfl) (by kernel_rfl) ?h0 ?hstep ?hdone
      case h0 => exact ⟨_, _, _, _, _, _, _, _, rfl, (fun h => absurd h (by decide)), (fun h => absurd h (by decide)), (fun h => absurd h (by decide)), (fun h => absurd h (by decide)), (fun h => absurd h (by decide)), (fun h => absurd h (by decide)), (fun h => absurd h (by decide)), (fun h => absurd h (by decide)), 1, rfl⟩
      case hstep =>
        refine (StepsW.cons (j := 1) rfl ?s0 (StepsW.cons (j := 2) rfl ?s1 (StepsW.cons (j := 3) rfl ?s2 (StepsW.cons (j := 4) rfl ?s3 (StepsW.cons (j := 5) rfl ?s4 (StepsW.cons (j := 6) rfl ?s5 (StepsW.cons (j := 7) rfl ?s6 (StepsW.cons (j := 8) rfl ?s7 StepsW.nil))))))))
        case s0 =>
          intro listed ts wx hi hall hI K hK
          obtain ⟨t26, t27, t28, t29, t30, t31, t32, t33, hts, h0, h1, h2, h3, h4, h5, h6, h7, m, rfl⟩ := hI
          subst hts
          simp only [putL, Act.put, List.getElem_toArray, List.getElem_cons_zero, List.getElem_cons_succ, List.setIfInBounds_toArray, List.set_cons_zero, List.set_cons_succ]
          refine wpIn_plain (by rfl) ?_
          go_simp
          have hk := hK.out [_, t27, t28, t29, t30, t31, t32, t33] (V.drewN m) ⟨_, t27, t28, t29, t30, t31, t32, t33, rfl, (fun _ => rfl), (keepV h1 (by decide)), (keepV h2 (by decide)), (keepV h3 (by decide)), (keepV h4 (by decide)), (keepV h5 (by decide)), (keepV h6 (by decide)), (keepV h7 (by decide)), _, rfl⟩
          simp only [putL, Act.put, List.getElem_toArray, List.getElem_cons_zero, List.getElem_cons_succ, List.setIfInBounds_toArray, List.set_cons_zero, List.set_cons_succ] at hk
          exact hk
        case s1 =>
          intro listed ts wx hi hall hI K hK
          obtain ⟨t26, t27, t28, t29, t30, t31, t32, t33, hts, h0, h1, h2, h3, h4, h5, h6, h7, m, rfl⟩ := hI
          subst hts
          simp only [putL, Act.put, List.getElem_toArray, List.getElem_cons_zero, List.getElem_cons_succ, List.setIfInBounds_toArray, List.set_cons_zero, List.set_cons_succ]
          refine wpIn_plain (by rfl) ?_
          go_simp
          have hk := hK.out [t26, _, t28, t29, t30, t31, t32, t33] (V.drewN m) ⟨t26, _, t28, t29, t30, t31, t32, t33, rfl, (keepV h0 (by decide)), (fun _ => rfl), (keepV h2 (by decide)), (keepV h3 (by decide)), (keepV h4 (by decide)), (keepV h5 (by decide)), (keepV h6 (by decide)), (keepV h7 (by decide)), _, rfl⟩
          simp only [putL, Act.put, List.getElem_toArray, List.getElem_cons_zero, List.getElem_cons_succ, List.setIfInBounds_toArray, List.set_cons_zero, List.set_cons_succ] at hk
          exact hk
        case s2 =>
          intro listed ts wx hi hall hI K hK
          obtain ⟨t26, t27, t28, t29, t30, t31, t32, t33, hts, h0, h1, h2, h3, h4, h5, h6, h7, m, rfl⟩ := hI
          subst hts
          simp only [putL, Act.put, List.getElem_toArray, List.getElem_cons_zero, List.getElem_cons_succ, List.setIfInBounds_toArray, List.set_cons_zero, List.set_cons_succ]
          refine wpIn_plain (by rfl) ?_
          go_simp
          have hk := hK.out [t26, t27, _, t29, t30, t31, t32, t33] (V.drewN m) ⟨t26, t27, _, t29, t30, t31, t32, t33, rfl, (keepV h0 (by decide)), (keepV h1 (by decide)), (fun _ => rfl), (keepV h3 (by decide)), (keepV h4 (by decide)), (keepV h5 (by decide)), (keepV h6 (by decide)), (keepV h7 (by decide)), _, rfl⟩
          simp only [putL, Act.put, List.getElem_toArray, List.getElem_cons_zero, List.getElem_cons_succ, List.setIfInBounds_toArray, List.set_cons_zero, List.set_cons_succ] at hk
          exact hk
        case s3 =>
          intro listed ts wx hi hall hI K hK
          obtain ⟨t26, t27, t28, t29, t30, t31, t32, t33, hts, h0, h1, h2, h3, h4, h5, h6, h7, m, rfl⟩ := hI
          subst hts
          simp only [putL, Act.put, List.getElem_toArray, List.getElem_cons_zero, List.getElem_cons_succ, List.setIfInBounds_toArray, List.set_cons_zero, List.set_cons_succ]
          refine wpIn_plain (by rfl) ?_
          go_simp
          have hk := hK.out [t26, t27, t28, _, t30, t31, t32, t33] (V.drewN m) ⟨t26, t27, t28, _, t30, t31, t32, t33, rfl, (keepV h0 (by decide)), (keepV h1 (by decide)), (keepV h2 (by decide)), (fun _ => rfl), (keepV h4 (by decide)), (keepV h5 (by decide)), (keepV h6 (by decide)), (keepV h7 (by decide)), _, rfl⟩
          simp only [putL, Act.put, List.getElem_toArray, List.getElem_cons_zero, List.getElem_cons_succ, List.setIfInBounds_toArray, List.set_cons_zero, List.set_cons_succ] at hk
          exact hk
        case s4 =>
          intro listed ts wx hi hall hI K hK
          obtain ⟨t26, t27, t28, t29, t30, t31, t32, t33, hts, h0, h1, h2, h3, h4, h5, h6, h7, m, rfl⟩ := hI
          subst hts
          obtain rfl := h3 (hall ⟨3, Ground.data⟩ (by simp) (by rfl))
          simp only [putL, Act.put, List.getElem_toArray, List.getElem_cons_zero, List.getElem_cons_succ, List.setIfInBounds_toArray, List.set_cons_zero, List.set_cons_succ]
          refine wpIn_plain (by rfl) ?_
          go_simp
          have hk := hK.out [t26, t27, t28, _, _, t31, t32, t33] (V.drewN m) ⟨t26, t27, t28, _, _, t31, t32, t33, rfl, (keepV h0 (by decide)), (keepV h1 (by decide)), (keepV h2 (by decide)), (keepV h3 (by decide)), (fun _ => rfl), (keepV h5 (by decide)), (keepV h6 (by decide)), (keepV h7 (by decide)), _, rfl⟩
          simp only [putL, Act.put, List.getElem_toArray, List.getElem_cons_zero, List.getElem_cons_succ, List.setIfInBounds_toArray, List.set_cons_zero, List.set_cons_succ] at hk
          exact hk
        case s5 =>
          intro listed ts wx hi hall hI K hK
          obtain ⟨t26, t27, t28, t29, t30, t31, t32, t33, hts, h0, h1, h2, h3, h4, h5, h6, h7, m, rfl⟩ := hI
          subst hts
          obtain rfl := h2 (hall ⟨2, Ground.data⟩ (by simp) (by rfl))
          obtain rfl := h4 (hall ⟨4, Ground.data⟩ (by simp) (by rfl))
          simp only [putL, Act.put, List.getElem_toArray, List.getElem_cons_zero, List.getElem_cons_succ, List.setIfInBounds_toArray, List.set_cons_zero, List.set_cons_succ]
          refine wpIn_plain (by rfl) ?_
          go_simp
          have hk := hK.out [t26, t27, _, t29, _, _, t32, t33] (V.drewN m) ⟨t26, t27, _, t29, _, _, t32, t33, rfl, (keepV h0 (by decide)), (keepV h1 (by decide)), (keepV h2 (by decide)), (keepV h3 (by decide)), (keepV h4 (by decide)), (fun _ => rfl), (keepV h6 (by decide)), (keepV h7 (by decide)), _, rfl⟩
          simp only [putL, Act.put, List.getElem_toArray, List.getElem_cons_zero, List.getElem_cons_succ, List.setIfInBounds_toArray, List.set_cons_zero, List.set_cons_succ] at hk
          exact hk
        case s6 =>
          intro listed ts wx hi hall hI K hK
          obtain ⟨t26, t27, t28, t29, t30, t31, t32, t33, hts, h0, h1, h2, h3, h4, h5, h6, h7, m, rfl⟩ := hI
          subst hts
          obtain rfl := h1 (hall ⟨1, Ground.data⟩ (by simp) (by rfl))
          obtain rfl := h5 (hall ⟨5, Ground.data⟩ (by simp) (by rfl))
          simp only [putL, Act.put, List.getElem_toArray, List.getElem_cons_zero, List.getElem_cons_succ, List.setIfInBounds_toArray, List.set_cons_zero, List.set_cons_succ]
          go_simp
          refine ⟨trivial, ?_⟩
          refine (CallsIn.inRound l (callsIn_wide.2 (HCL.out (q'.t + 1 - x.1.2.t) (q'.t + 1 - x.1.2.t).toNat _ (V.drewN m) (by omega) (by omega) rfl (HBV.out.drewN m)))).mono ?_
          rintro e w9 ⟨rfl, m9, rfl⟩
          dsimp only
          rw [World.drewN_drewN]
          have hk := hK.out [t26, _, t28, t29, t30, _, _, t33] (V.drewN (m + m9)) ⟨t26, _, t28, t29, t30, _, _, t33, rfl, (keepV h0 (by decide)), (keepV h1 (by decide)), (keepV h2 (by decide)), (keepV h3 (by decide)), (keepV h4 (by decide)), (keepV h5 (by decide)), (fun _ => rfl), (keepV h7 (by decide)), _, rfl⟩
          simp only [putL, Act.put, List.getElem_toArray, List.getElem_cons_zero, List.getElem_cons_succ, List.setIfInBounds_toArray, List.set_cons_zero, List.set_cons_succ] at hk
          exact hk
        case s7 =>
          intro listed ts wx hi hall hI K hK
          obtain ⟨t26, t27, t28, t29, t30, t31, t32, t33, hts, h0, h1, h2, h3, h4, h5, h6, h7, m, rfl⟩ := hI
          subst hts
          obtain rfl := h0 (hall ⟨0, Ground.data⟩ (by simp) (by rfl))
          obtain rfl := h6 (hall ⟨6, Ground.data⟩ (by simp) (by rfl))
          simp only [putL, Act.put, List.getElem_toArray, List.getElem_cons_zero, List.getElem_cons_succ, List.setIfInBounds_toArray, List.set_cons_zero, List.set_cons_succ]
          refine wpIn_plain (by rfl) ?_
          go_simp
          have hk := hK.out [_, t27, t28, t29, t30, t31, _, _] (V.drewN m) ⟨_, t27, t28, t29, t30, t31, _, _, rfl, (keepV h0 (by decide)), (keepV h1 (by decide)), (keepV h2 (by decide)), (keepV h3 (by decide)), (keepV h4 (by decide)), (keepV h5 (by decide)), (keepV h6 (by decide)), (fun _ => rfl), _, rfl⟩
          simp only [putL, Act.put, List.getElem_toArray, List.getElem_cons_zero, List.getElem_cons_succ, List.setIfInBounds_toArray, List.set_cons_zero, List.set_cons_succ] at hk
          exact hk
      case hdone =>
        intro listed ts wx hall hI
        obtain ⟨t26, t27, t28, t29, t30, t31, t32, t33, rfl, h0, h1, h2, h3, h4, h5, h6, h7, m, rfl⟩ := hI
        obtain rfl := h0 (hall 0 (by decide))
        obtain rfl := h1 (hall 1 (by decide))
        obtain rfl := h2 (hall 2 (by decide))
        obtain rfl := h3 (hall 3 (by decide))
        obtain rfl := h4 (hall 4 (by decide))
        obtain rfl := h5 (hall 5 (by decide))
        obtain rfl := h6 (hall 6 (by decide))
        obtain rfl := h7 (hall 7 (by decide))
        simp only [putL, Act.put, List.getElem_toArray, List.getElem_cons_zero, List.getElem_cons_succ, List.setIfInBounds_toArray, List.set_cons_zero, List.set_cons_succ]
        have cR2 := HB4.out.2.2.1.cell
        have fR2 := HB4.out.2.2.1.frozen
        have cO2 := HB4.out.2.2.2.cell
        have fO2 := HB4.out.2.2.2.frozen
        have oB := (show Boxed (V.drewN m) _ _ _ from HB4.out.2.2.2).other (by omega) (.int .i64 x.1.2.t) (B' := w.heap.size + 1)
        have cO3 := oB.cell
        have fO3 := oB.frozen
        gi_wp2
        refine ⟨HV1.out.2.1.trans ((KeepsOthers.drewN13 _ _).from _ |>.trans (((KeepsOthers.setCell _ _ _).from _).trans ((KeepsOthers.setCell _ _ _).from _))), rfl, x.1.2.t, by rw [HSN.out.1, if_pos (by have := HC.out; omega)], ?_, oB.set _, ?_⟩
        · exact ((show Boxed (V.drewN m) _ _ _ from HB4.out.2.2.1).set _).other (by omega) _
        · exact ((HBV.out.drewN m).setCell (by show w.heap.size ≤ w.heap.size + 1; omega) _).setCell (by show w.heap.size ≤ w.heap.size + 1 + 1; omega) _
    · have HC := Lib.hid hc
      refine wpIn_region_invW 26 8 (fun ts listed wx => ∃ t26 t27 t28 t29 t30 t31 t32 t33 : Value, ts = [t26, t27, t28, t29, t30, t31, t32, t33] ∧ (listed.getD 0 false = true → t26 = .int .i64 (S0 + x.1.2.s)) ∧ (listed.getD 1 false = true → t27 = closPV B) ∧ (listed.getD 2 false = true → t28 = .int .i64 (q'.t + 1)) ∧ (listed.getD 3 false = true → t29 = .pointer (some ⟨Bx, 1, none⟩)) ∧ (listed.getD 4 false = true → t30 = .int .i64 x.1.2.t) ∧ (listed.getD 5 false = true → t31 = .int .i64 (q'.t + 1 - x.1.2.t)) ∧ (listed.getD 6 false = true → t32 = .int .i64 (E (q'.t + 1 - x.1.2.t).toNat)) ∧ (listed.getD 7 false = true → t33 = .bool false) ∧ (∃ m, wx = V.drewN m)) (by kernel_rfl) (by kernel_rfl) (by kernel_rfl) ?h0 ?hstep ?hdone
      case h0 => exact ⟨_, _, _, _, _, _, _, _, rfl, (fun h => absurd h (by decide)), (fun h => absurd h (by decide)), (fun h => absurd h (by decide)), (fun h => absurd h (by decide)), (fun h => absurd h (by decide)), (fun h => absurd h (by decide)), (fun h => absurd h (by decide)), (fun h => absurd h (by decide)), 1, rfl⟩
      case hstep =>
        refine (StepsW.cons (j := 1) rfl ?s0 (StepsW.cons (j := 2) rfl ?s1 (StepsW.cons (j := 3) rfl ?s2 (StepsW.cons (j := 4) rfl ?s3 (StepsW.cons (j := 5) rfl ?s4 (StepsW.cons (j := 6) rfl ?s5 (StepsW.cons (j := 7) rfl ?s6 (StepsW.cons (j := 8) rfl ?s7 StepsW.nil))))))))
        case s0 =>
          intro listed ts wx hi hall hI K hK
          obtain ⟨t26, t27, t28, t29, t30, t31, t32, t33, hts, h0, h1, h2, h3, h4, h5, h6, h7, m, rfl⟩ := hI
          subst hts
          simp only [putL, Act.put, List.getElem_toArray, List.getElem_cons_zero, List.getElem_cons_succ, List.setIfInBounds_toArray, List.set_cons_zero, List.set_cons_succ]
          refine wpIn_plain (by rfl) ?_
          go_simp
          have hk := hK.out [_, t27, t28, t29, t30, t31, t32, t33] (V.drewN m) ⟨_, t27, t28, t29, t30, t31, t32, t33, rfl, (fun _ => rfl), (keepV h1 (by decide)), (keepV h2 (by decide)), (keepV h3 (by decide)), (keepV h4 (by decide)), (keepV h5 (by decide)), (keepV h6 (by decide)), (keepV h7 (by decide)), _, rfl⟩
          simp only [putL, Act.put, List.getElem_toArray, List.getElem_cons_zero, List.getElem_cons_succ, List.setIfInBounds_toArray, List.set_cons_zero, List.set_cons_succ] at hk
          exact hk
        case s1 =>
          intro listed ts wx hi hall hI K hK
          obtain ⟨t26, t27, t28, t29, t30, t31, t32, t33, hts, h0, h1, h2, h3, h4, h5, h6, h7, m, rfl⟩ := hI
          subst hts
          simp only [putL, Act.put, List.getElem_toArray, List.getElem_cons_zero, List.getElem_cons_succ, List.setIfInBounds_toArray, List.set_cons_zero, List.set_cons_succ]
          refine wpIn_plain (by rfl) ?_
          go_simp
          have hk := hK.out [t26, _, t28, t29, t30, t31, t32, t33] (V.drewN m) ⟨t26, _, t28, t29, t30, t31, t32, t33, rfl, (keepV h0 (by decide)), (fun _ => rfl), (keepV h2 (by decide)), (keepV h3 (by decide)), (keepV h4 (by decide)), (keepV h5 (by decide)), (keepV h6 (by decide)), (keepV h7 (by decide)), _, rfl⟩
          simp only [putL, Act.put, List.getElem_toArray, List.getElem_cons_zero, List.getElem_cons_succ, List.setIfInBounds_toArray, List.set_cons_zero, List.set_cons_succ] at hk
          exact hk
        case s2 =>
          intro listed ts wx hi hall hI K hK
          obtain ⟨t26, t27, t28, t29, t30, t31, t32, t33, hts, h0, h1, h2, h3, h4, h5, h6, h7, m, rfl⟩ := hI
          subst hts
          simp only [putL, Act.put, List.getElem_toArray, List.getElem_cons_zero, List.getElem_cons_succ, List.setIfInBounds_toArray, List.set_cons_zero, List.set_cons_succ]
          refine wpIn_plain (by rfl) ?_
          go_simp
          have hk := hK.out [t26, t27, _, t29, t30, t31, t32, t33] (V.drewN m) ⟨t26, t27, _, t29, t30, t31, t32, t33, rfl, (keepV h0 (by decide)), (keepV h1 (by decide)), (fun _ => rfl), (keepV h3 (by decide)), (keepV h4 (by decide)), (keepV h5 (by decide)), (keepV h6 (by decide)), (keepV h7 (by decide)), _, rfl⟩
          simp only [putL, Act.put, List.getElem_toArray, List.getElem_cons_zero, List.getElem_cons_succ, List.setIfInBounds_toArray, List.set_cons_zero, List.set_cons_succ] at hk
          exact hk
        case s3 =>
          intro listed ts wx hi hall hI K hK
          obtain ⟨t26, t27, t28, t29, t30, t31, t32, t33, hts, h0, h1, h2, h3, h4, h5, h6, h7, m, rfl⟩ := hI
          subst hts
          simp only [putL, Act.put, List.getElem_toArray, List.getElem_cons_zero, List.getElem_cons_succ, List.setIfInBounds_toArray, List.set_cons_zero, List.set_cons_succ]
          refine wpIn_plain (by rfl) ?_
          go_simp
          have hk := hK.out [t26, t27, t28, _, t30, t31, t32, t33] (V.drewN m) ⟨t26, t27, t28, _, t30, t31, t32, t33, rfl, (keepV h0 (by decide)), (keepV h1 (by decide)), (keepV h2 (by decide)), (fun _ => rfl), (keepV h4 (by decide)), (keepV h5 (by decide)), (keepV h6 (by decide)), (keepV h7 (by decide)), _, rfl⟩
          simp only [putL, Act.put, List.getElem_toArray, List.getElem_cons_zero, List.getElem_cons_succ, List.setIfInBounds_toArray, List.set_cons_zero, List.set_cons_succ] at hk
          exact hk
        case s4 =>
          intro listed ts wx hi hall hI K hK
          obtain ⟨t26, t27, t28, t29, t30, t31, t32, t33, hts, h0, h1, h2, h3, h4, h5, h6, h7, m, rfl⟩ := hI
          subst hts
          obtain rfl := h3 (hall ⟨3, Ground.data⟩ (by simp) (by rfl))
          simp only [putL, Act.put, List.getElem_toArray, List.getElem_cons_zero, List.getElem_cons_succ, List.setIfInBounds_toArray, List.set_cons_zero, List.set_cons_succ]
          refine wpIn_plain (by rfl) ?_
          go_simp
          have hk := hK.out [t26, t27, t28, _, _, t31, t32, t33] (V.drewN m) ⟨t26, t27, t28, _, _, t31, t32, t33, rfl, (keepV h0 (by decide)), (keepV h1 (by decide)), (keepV h2 (by decide)), (keepV h3 (by decide)), (fun _ => rfl), (keepV h5 (by decide)), (keepV h6 (by decide)), (keepV h7 (by decide)), _, rfl⟩
          simp only [putL, Act.put, List.getElem_toArray, List.getElem_cons_zero, List.getElem_cons_succ, List.setIfInBounds_toArray, List.set_cons_zero, List.set_cons_succ] at hk
          exact hk
        case s5 =>
          intro listed ts wx hi hall hI K hK
          obtain ⟨t26, t27, t28, t29, t30, t31, t32, t33, hts, h0, h1, h2, h3, h4, h5, h6, h7, m, rfl⟩ := hI
          subst hts
          obtain rfl := h2 (hall ⟨2, Ground.data⟩ (by simp) (by rfl))
          obtain rfl := h4 (hall ⟨4, Ground.data⟩ (by simp) (by rfl))
          simp only [putL, Act.put, List.getElem_toArray, List.getElem_cons_zero, List.getElem_cons_succ, List.setIfInBounds_toArray, List.set_cons_zero, List.set_cons_succ]
          refine wpIn_plain (by rfl) ?_
          go_simp
          have hk := hK.out [t26, t27, _, t29, _, _, t32, t33] (V.drewN m) ⟨t26, t27, _, t29, _, _, t32, t33, rfl, (keepV h0 (by decide)), (keepV h1 (by decide)), (keepV h2 (by decide)), (keepV h3 (by decide)), (keepV h4 (by decide)), (fun _ => rfl), (keepV h6 (by decide)), (keepV h7 (by decide)), _, rfl⟩
          simp only [putL, Act.put, List.getElem_toArray, List.getElem_cons_zero, List.getElem_cons_succ, List.setIfInBounds_toArray, List.set_cons_zero, List.set_cons_succ] at hk
          exact hk
        case s6 =>
          intro listed ts wx hi hall hI K hK
          obtain ⟨t26, t27, t28, t29, t30, t31, t32, t33, hts, h0, h1, h2, h3, h4, h5, h6, h7, m, rfl⟩ := hI
          subst hts
          obtain rfl := h1 (hall ⟨1, Ground.data⟩ (by simp) (by rfl))
          obtain rfl := h5 (hall ⟨5, Ground.data⟩ (by simp) (by rfl))
          simp only [putL, Act.put, List.getElem_toArray, List.getElem_cons_zero, List.getElem_cons_succ, List.setIfInBounds_toArray, List.set_cons_zero, List.set_cons_succ]
          go_simp
          refine ⟨trivial, ?_⟩
          refine (CallsIn.inRound l (callsIn_wide.2 (HCL.out (q'.t + 1 - x.1.2.t) (q'.t + 1 - x.1.2.t).toNat _ (V.drewN m) (by omega) (by omega) rfl (HBV.out.drewN m)))).mono ?_
          rintro e w9 ⟨rfl, m9, rfl⟩
          dsimp only
          rw [World.drewN_drewN]
          have hk := hK.out [t26, _, t28, t29, t30, _, _, t33] (V.drewN (m + m9)) ⟨t26, _, t28, t29, t30, _, _, t33, rfl, (keepV h0 (by decide)), (keepV h1 (by decide)), (keepV h2 (by decide)), (keepV h3 (by decide)), (keepV h4 (by decide)), (keepV h5 (by decide)), (fun _ => rfl), (keepV h7 (by decide)), _, rfl⟩
          simp only [putL, Act.put, List.getElem_toArray, List.getElem_cons_zero, List.getElem_cons_succ, List.setIfInBounds_toArray, List.set_cons_zero, List.set_cons_succ] at hk
          exact hk
        case s7 =>
          intro listed ts wx hi hall hI K hK
          obtain ⟨t26, t27, t28, t29, t30, t31, t32, t33, hts, h0, h1, h2, h3, h4, h5, h6, h7, m, rfl⟩ := hI
          subst hts
          obtain rfl := h0 (hall ⟨0, Ground.data⟩ (by simp) (by rfl))
          obtain rfl := h6 (hall ⟨6, Ground.data⟩ (by simp) (by rfl))
          simp only [putL, Act.put, List.getElem_toArray, List.getElem_cons_zero, List.getElem_cons_succ, List.setIfInBounds_toArray, List.set_cons_zero, List.set_cons_succ]
          refine wpIn_plain (by rfl) ?_
          go_simp
          have hk := hK.out [_, t27, t28, t29, t30, t31, _, _] (V.drewN m) ⟨_, t27, t28, t29, t30, t31, _, _, rfl, (keepV h0 (by decide)), (keepV h1 (by decide)), (keepV h2 (by decide)), (keepV h3 (by decide)), (keepV h4 (by decide)), (keepV h5 (by decide)), (keepV h6 (by decide)), (fun _ => rfl), _, rfl⟩
          simp only [putL, Act.put, List.getElem_toArray, List.getElem_cons_zero, List.getElem_cons_succ, List.setIfInBounds_toArray, List.set_cons_zero, List.set_cons_succ] at hk
          exact hk
      case hdone =>
        intro listed ts wx hall hI
        obtain ⟨t26, t27, t28, t29, t30, t31, t32, t33, rfl, h0, h1, h2, h3, h4, h5, h6, h7, m, rfl⟩ := hI
        obtain rfl := h0 (hall 0 (by decide))
        obtain rfl := h1 (hall 1 (by decide))
        obtain rfl := h2 (hall 2 (by decide))
        obtain rfl := h3 (hall 3 (by decide))
        obtain rfl := h4 (hall 4 (by decide))
        obtain rfl := h5 (hall 5 (by decide))
        obtain rfl := h6 (hall 6 (by decide))
        obtain rfl := h7 (hall 7 (by decide))
        simp only [putL, Act.put, List.getElem_toArray, List.getElem_cons_zero, List.getElem_cons_succ, List.setIfInBounds_toArray, List.set_cons_zero, List.set_cons_succ]
        gi_wp2
        exact ⟨HV1.out.2.1.trans ((KeepsOthers.drewN13 _ _).from _), HV1.out.2.2.drewN13 m, by rw [HSN.out.2]; exact (show Boxed (V.drewN m) _ _ _ from HB4.out.1.1), HV1.out.1.drewN13 m, by rw [HSN.out.1, if_neg (by have := HC.out; omega)]⟩
  case done =>
    rintro D zs W hD hS ⟨bS1, hB1, hE1⟩ hK
    have bR1 := boxed_bb HW.out.1.2 hB1 (by omega) (by omega)
    have bO1 := boxed_bb HW.out.2.1 hB1 (by omega) (by omega)
    have cR := bR1.cell
    have fR := bR1.frozen
    have oB := bO1.other (by omega) (.int .i64 0) (B' := w.heap.size + 1)
    have cO := oB.cell
    have fO := oB.frozen
    have hEN : exc14 E lst = none := by rw [HX.out.1, ← show pvs zs = lst.reverse from hS]; exact hE1
    have HE := Lib.hid hEN
    have r4 := (bR1.set (.int .i64 0)).other (by omega) (.bool false) (B' := w.heap.size + 1 + 1)
    have r5 := oB.set (.bool false)
    have hBe : Below w.heap.size w ((W.setCell ⟨w.heap.size + 1, 0, none⟩ (.int .i64 0)).setCell ⟨w.heap.size + 1 + 1, 0, none⟩ (.bool false)) :=
      ((HW.out.2.2.2.trans (hB1.below (by omega) (by omega))).setCell (by show w.heap.size ≤ w.heap.size + 1; omega) _).setCell (by show w.heap.size ≤ w.heap.size + 1 + 1; omega) _
    have HBe := Lib.hid hBe
    have hK' := (((KeepsOthers.setCell W ⟨w.heap.size + 1, 0, none⟩ (.int .i64 0))).trans (KeepsOthers.setCell _ ⟨w.heap.size + 1 + 1, 0, none⟩ (.bool false))).same D _ hK rfl
    have HR4 := Lib.hid (And.intro r4 (And.intro r5 hK'))
    clear bS1 hE1 bR1 bO1 oB hEN r4 r5 hBe hK'
    gi_wp2
    refine ⟨by simp, .inl ⟨_, _, rfl, run_takeDeferred HR4.out.2.2, ?_⟩⟩
    have hg := grownBy_putObj' ((W.setCell ⟨w.heap.size + 1, 0, none⟩ (.int .i64 0)).setCell ⟨w.heap.size + 1 + 1, 0, none⟩ (.bool false)) D (.deferred none)
    have hc4 := cell_kept HR4.out.1.cell hg (fun r e => by cases e; exact ⟨_, HR4.out.2.2, rfl⟩)
    have hc5 := cell_kept HR4.out.2.1.cell hg (fun r e => by cases e; exact ⟨_, HR4.out.2.2, rfl⟩)
    refine ⟨.tuple #[.int .i64 0, .bool false], ?_, ?_⟩
    · simp [results, Try.f100, go_sem, hc4, hc5]
    · rw [HE.out]
      exact ⟨rfl, HBe.out.trans (belowK_b (w := w) (Nat.le_refl _) _ D _ _ (by omega) HR4.out.2.2 rfl rfl)⟩
  case stop =>
    rintro D c pre W hD ⟨m, hm, hS⟩ ⟨rfl, v, hv, g1, g2, g3⟩ hK
    have hEN : exc14 E lst = some v := by
      rw [HX.out.1, ← List.take_append_drop m lst, List.reverse_append]
      exact exB_pre E _ v _ _ 0 (by rw [← show pvs pre = (lst.drop m).reverse from hS]; exact hv)
    have HE := Lib.hid hEN
    have HG := Lib.hid (And.intro g1 (And.intro g2 g3))
    clear hEN hv
    gi_wp2
    refine ⟨by simp, .inl ⟨_, _, rfl, run_takeDeferred hK, ?_⟩⟩
    have hg := grownBy_putObj' W D (.deferred none)
    have hc4 := cell_kept HG.out.1.cell hg (fun r e => by cases e; exact ⟨_, hK, rfl⟩)
    have hc5 := cell_kept HG.out.2.1.cell hg (fun r e => by cases e; exact ⟨_, hK, rfl⟩)
    refine ⟨.tuple #[.int .i64 v, .bool true], ?_, ?_⟩
    · simp [results, Try.f100, go_sem, hc4, hc5]
    · rw [HE.out]
      exact ⟨rfl, HG.out.2.2.trans (belowK_b (w := w) (Nat.le_refl _) _ D _ _ (by omega) hK rfl rfl)⟩

/-- excess, of whatever list that is not empty, ascending and within its ranges. -/
theorem excess14 (a : Option Addr) (len cap : Nat) (lst ls0 : List Pk) (q : Pk) (hlq : lst = ls0 ++ [q]) (hl61 : len ≤ 61) (hok : ∀ x ∈ lst, okP x = true ∧ x.t ≤ q.t) (B : Nat) (E : Nat → Int) (w : World) (h : PkR w a len cap lst)
    (hcl : ClosG 152 #[.pointer (some ⟨B + 1, 0, none⟩), .pointer (some ⟨B, 0, none⟩)] 4194304 E w) :
    Calls Try.prog 100 #[.slice a len cap, closPV B] w (GivesEx (exc14 E lst) w) :=
  (callsIn_wide (n := 8)).1 (excess_in a len cap lst ls0 q hlq hl61 hok B E w h hcl)
end Go.Proofs.Ytknimlpdpgpliaa
