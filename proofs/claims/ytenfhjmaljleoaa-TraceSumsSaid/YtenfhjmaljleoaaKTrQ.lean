/- Bytes and Cumulative of package trace. By the verifier's side. -/
import Derived.Test.YtenfhjmaljleoaaKTrP
import Derived.Test.YtenfhjmaljleoaaKTrB
namespace Go.Proofs.Ytenfhjmaljleoaa
open Go.RowKit Go.Shelf
set_option linter.unusedSimpArgs false
set_option linter.unusedVariables false
attribute [local go_sem] Oper.semAt_some

set_option maxHeartbeats 400000 in
theorem packets_in (F : Fence) (n : Nat) (hF : F.fn 99) (hro : F.round = none) (a : Option Addr) (len cap : Nat) (fl : Int) (w : World) :
    CallsIn F n Try.prog 99 #[.slice a len cap, .int .i64 fl] w fun e w' => e = .returned (.func (.func 176) #[] #[.pointer (some ⟨w.heap.size + 1, 0, none⟩), .pointer (some ⟨w.heap.size, 0, none⟩)]) ∧ w' = (w.alloc (.cells #[.slice a len cap] 22)).alloc (.cells #[.int .i64 fl] 3) := by
  refine callsIn_of_wp Try.func99 rfl hF ?_ hro
  simp only [Try.ntmps99, List.size_toArray, List.length_cons, List.length_nil, Nat.reduceAdd, Nat.reduceSub, Array.replicate_succ, Array.replicate_zero, List.push_toArray, List.append_toArray, List.nil_append, List.cons_append]
  gi_wp2
  go_ret
  exact ⟨rfl, rfl⟩

theorem packets_stops (F : Fence) (n : Nat) (hF : F.fn 176) (hro : F.round = none) (hn : 1 ≤ n) (Bf Bs n0 b : Nat) (fl : Int) (a : Option Addr) (len cap : Nat) (lst : List Pk) (w : World) (hn0 : n0 ≤ w.heap.size)
    (hf1 : Bf < n0) (hf2 : Bf ≠ b) (hs1 : Bs < n0) (hs2 : Bs ≠ b) (hcf : w.cell? ⟨Bf, 0, none⟩ = some (.int .i64 fl)) (hcs : w.cell? ⟨Bs, 0, none⟩ = some (.slice a len cap)) (hR : PkR w a len cap lst) (hR0 : ∀ B off, a = some ⟨B, off, none⟩ → 1 ≤ len → B < n0 ∧ B ≠ b) :
    SeqStopsK F n Try.prog 176 #[.pointer (some ⟨Bf, 0, none⟩), .pointer (some ⟨Bs, 0, none⟩)] (fun x : Pk => #[.agg #[.int .i64 x.f, .int .i64 x.t, .int .i64 x.s]]) (BB n0 b) (fun ys => ys = sel fl lst) (fun pre => ∃ k, k ≤ len ∧ pre = sel fl (lst.take k)) len w := fun l J Jx W hW hJ _ hY h0 =>
  packets1_in F n hF hro hn l Bf Bs n0 b fl a len cap lst J Jx (fun pre x W1 _ hj hl => hY pre x W1 hj hl) W hJ (Nat.le_trans hn0 hW.size) hf1 hf2 hs1 hs2 ((hW.cell (p := ⟨Bf, 0, none⟩) (by show Bf < _; omega)).trans hcf) ((hW.cell (p := ⟨Bs, 0, none⟩) (by show Bs < _; omega)).trans hcs) (hR.under hW) hR0 h0

/-- The same, where a round may know that it is handed a packet of the list. -/
theorem packets_stops2 (F : Fence) (n : Nat) (hF : F.fn 176) (hro : F.round = none) (hn : 1 ≤ n) (Bf Bs n0 b : Nat) (fl : Int) (a : Option Addr) (len cap : Nat) (lst : List Pk) (w : World) (hn0 : n0 ≤ w.heap.size)
    (hf1 : Bf < n0) (hf2 : Bf ≠ b) (hs1 : Bs < n0) (hs2 : Bs ≠ b) (hcf : w.cell? ⟨Bf, 0, none⟩ = some (.int .i64 fl)) (hcs : w.cell? ⟨Bs, 0, none⟩ = some (.slice a len cap)) (hR : PkR w a len cap lst) (hR0 : ∀ B off, a = some ⟨B, off, none⟩ → 1 ≤ len → B < n0 ∧ B ≠ b) :
    SeqStopsK F n Try.prog 176 #[.pointer (some ⟨Bf, 0, none⟩), .pointer (some ⟨Bs, 0, none⟩)] (fun x : { q : Pk // q ∈ lst } => #[.agg #[.int .i64 x.1.f, .int .i64 x.1.t, .int .i64 x.1.s]]) (BB n0 b) (fun ys => ys.map (·.1) = sel fl lst) (fun _ => True) len w := fun l J Jx W hW hJ _ hY h0 => by
  refine (packets1_in F n hF hro hn l Bf Bs n0 b fl a len cap lst (fun pre W => ∃ ps : List { q : Pk // q ∈ lst }, ps.map (·.1) = pre ∧ J ps W) (fun pre W => ∃ ps : List { q : Pk // q ∈ lst }, Jx ps W) (fun pre x W1 hx hj hl => ?_) W ?_ (Nat.le_trans hn0 hW.size) hf1 hf2 hs1 hs2 ((hW.cell (p := ⟨Bf, 0, none⟩) (by show Bf < _; omega)).trans hcf) ((hW.cell (p := ⟨Bs, 0, none⟩) (by show Bs < _; omega)).trans hcs) (hR.under hW) hR0 ⟨[], rfl, h0⟩).mono ?_
  · obtain ⟨ps, rfl, hj⟩ := hj
    refine (hY ps ⟨x, hx⟩ W1 hj (by simpa using hl)).mono ?_
    rintro e W' (⟨he, h1, h2⟩ | ⟨he, h1⟩)
    · exact .inl ⟨he, ⟨ps ++ [⟨x, hx⟩], by simp, h1⟩, h2⟩
    · exact .inr ⟨he, _, h1⟩
  · rintro s A B row ⟨ps, h1, h2⟩ hg hr
    exact ⟨ps, h1, hJ ps A B row h2 hg hr⟩
  · rintro e W' ⟨he, ⟨ys, rfl, ps, h1, h2⟩ | ⟨pre, _, ps, h2⟩⟩
    · exact ⟨he, .inl ⟨ps, h1, h2⟩⟩
    · exact ⟨he, .inr ⟨ps, trivial, h2⟩⟩

/-- What counts of a packet before the tick t. -/
def bytT (t : Int) (q : Pk) : Int := if q.t < t then q.s else 0
/-- The sum in a 64-bit number. -/
def bytW (t : Int) (l : List Pk) : Int := IntKind.i64.wrap (sumG (bytT t) l)

theorem wrap_add13 (a b : Int) : IntKind.i64.wrap (IntKind.i64.wrap a + b) = IntKind.i64.wrap (a + b) := by
  rw [IntKind.wrap_i64, IntKind.wrap_i64, IntKind.wrap_i64]; omega
theorem sumG_snoc (g : Pk → Int) (l : List Pk) (q : Pk) : sumG g (l ++ [q]) = sumG g l + g q := by rw [sumG_append]; simp [sumG]
theorem bytW_yes {t : Int} {l : List Pk} {q : Pk} (h : q.t < t) : bytW t (l ++ [q]) = IntKind.i64.wrap (bytW t l + q.s) := by
  unfold bytW; rw [sumG_snoc, wrap_add13]; unfold bytT; rw [if_pos h]
theorem bytW_no {t : Int} {l : List Pk} {q : Pk} (h : ¬ q.t < t) : bytW t (l ++ [q]) = bytW t l := by
  unfold bytW; rw [sumG_snoc]; unfold bytT; rw [if_neg h, Int.add_zero]
/-- A box that holds a packet. -/
def PkBox (W : World) (B : Nat) (q : Pk) : Prop := W.heap[B]? = some (.cells #[.int .i64 q.f, .int .i64 q.t, .int .i64 q.s] 47 (0, 0))
theorem PkBox.new (W : World) (q : Pk) : PkBox (W.alloc (.cells #[.int .i64 q.f, .int .i64 q.t, .int .i64 q.s] 47)) W.heap.size q := World.alloc_heap_new W _
theorem PkBox.cells {W : World} {B : Nat} {q : Pk} (h : PkBox W B q) : W.cell? ⟨B, 0, none⟩ = some (.int .i64 q.f) ∧ W.cell? ⟨B, 1, none⟩ = some (.int .i64 q.t) ∧ W.cell? ⟨B, 2, none⟩ = some (.int .i64 q.s) := by
  unfold PkBox at h
  exact ⟨by simp [World.cell?, h], by simp [World.cell?, h], by simp [World.cell?, h]⟩
theorem pkBox_own {β : Type} (B : Nat) (q : Pk) : Own (fun (_ : β) W => PkBox W B q) := fun s X Y row hs hg hrow => by
  show Y.heap[B]? = _
  have hlt : B < X.heap.size := (Array.getElem?_eq_some_iff.1 (show X.heap[B]? = _ from hs)).1
  rw [hg.block B hlt (fun e' => by obtain ⟨o, ho, hc⟩ := hrow B e'.symm; rw [show X.heap[B]? = _ from hs] at ho; cases ho; cases hc)]
  exact hs

set_option maxRecDepth 100000 in
set_option maxHeartbeats 2000000 in
theorem bytes_in (F : Fence) (n : Nat) (hF1 : F.fn 29) (hF2 : F.fn 99) (hF3 : F.fn 176) (hro : F.round = none) (hn : 6 ≤ n) (a : Option Addr) (len cap : Nat) (lst : List Pk) (fl t : Int) (w : World) (h : PkR w a len cap lst) :
    CallsIn F n Try.prog 29 #[.slice a len cap, .int .i64 fl, .int .i64 t] w fun e w' => e = .returned (.int .i64 (bytW t (sel fl lst))) ∧ Below w.heap.size w w' := by
  have H := Lib.hid h
  clear h
  have h1 : 1 ≤ n := by omega
  refine callsIn_of_wp_marks Try.func29 rfl hF1 ?_ hro
  simp only [Try.ntmps29, List.size_toArray, List.length_cons, List.length_nil, Nat.reduceAdd, Nat.reduceSub, Array.replicate_succ, Array.replicate_zero, List.push_toArray, List.append_toArray, List.nil_append, List.cons_append]
  gi_wp2_with (gi_at_call 99; refine (packets_in F (n - 1) hF2 hro _ _ _ _ _).mono ?_; rintro e w' ⟨rfl, rfl⟩)
  have bT := (((Boxed.new w 3 (.int .i64 t)).alloc (.cells #[.int .i64 0] 3)).alloc (.cells #[.slice a len cap] 22)).alloc (.cells #[.int .i64 fl] 3)
  have bS := ((Boxed.new (w.alloc (.cells #[.int .i64 t] 3)) 3 (.int .i64 0)).alloc (.cells #[.slice a len cap] 22)).alloc (.cells #[.int .i64 fl] 3)
  have bL := (Boxed.new ((w.alloc (.cells #[.int .i64 t] 3)).alloc (.cells #[.int .i64 0] 3)) 22 (.slice a len cap)).alloc (.cells #[.int .i64 fl] 3)
  have bF := Boxed.new (((w.alloc (.cells #[.int .i64 t] 3)).alloc (.cells #[.int .i64 0] 3)).alloc (.cells #[.slice a len cap] 22)) 3 (.int .i64 fl)
  simp only [World.size_alloc] at bS bL bF
  have hB0 : Below w.heap.size w ((((w.alloc (.cells #[.int .i64 t] 3)).alloc (.cells #[.int .i64 0] 3)).alloc (.cells #[.slice a len cap] 22)).alloc (.cells #[.int .i64 fl] 3)) := ((((Below.refl _ w).alloc (Nat.le_refl _) _).alloc (by simp) _).alloc (by simp; omega) _).alloc (by simp; omega) _
  have hsz : ((((w.alloc (.cells #[.int .i64 t] 3)).alloc (.cells #[.int .i64 0] 3)).alloc (.cells #[.slice a len cap] 22)).alloc (.cells #[.int .i64 fl] 3)).heap.size = w.heap.size + 4 := by simp
  obtain ⟨W0, hW0⟩ : ∃ W0, (((w.alloc (.cells #[.int .i64 t] 3)).alloc (.cells #[.int .i64 0] 3)).alloc (.cells #[.slice a len cap] 22)).alloc (.cells #[.int .i64 fl] 3) = W0 := ⟨_, rfl⟩
  rw [hW0] at bT bS bL bF hB0 hsz ⊢
  clear hW0
  refine wpIn_rangeFunc_ownH hro h1 (gf := 176) (lb := #[.pointer (some ⟨w.heap.size + 1 + 1 + 1, 0, none⟩), .pointer (some ⟨w.heap.size + 1 + 1, 0, none⟩)]) rfl hF3 (enters_of Try.func176 (by kernel_rfl) rfl)
    (packets_stops F (n - 1) hF3 hro (by omega) (w.heap.size + 1 + 1 + 1) (w.heap.size + 1 + 1) (w.heap.size + 4) (w.heap.size + 1) fl a len cap lst W0 (by omega) (by omega) (by omega) (by omega) (by omega) bF.cell bL.cell (H.out.under hB0)
      (fun B off ha hl => by
        rcases H.out.place with ⟨h0, _⟩ | ⟨B', off', ha', hc'⟩
        · omega
        · rw [ha] at ha'; cases ha'
          have := hc'.lt (List.getElem?_eq_getElem (show 0 < lst.length by rw [H.out.len]; omega))
          omega)) bbK_t (bbK_b (by omega)) (Below.refl _ _) (fun _ => rfl)
    (fun pre W => Boxed W (w.heap.size + 1) 3 (.int .i64 (bytW t pre)) ∧ BB (w.heap.size + 4) (w.heap.size + 1) W0 W)
    (fun _ _ _ => False)
    (OwnFrom.and (Own.from (boxed_own _ _ _) _) (ownFrom_bb (by omega) (by omega)))
    (fun _ _ _ _ _ hs _ _ => hs)
    ⟨bS, BB.refl _ _ _⟩
    (fun x a' W => ∃ Bx, w.heap.size + 3 < Bx ∧ PkBox W Bx x ∧ a' = { tmps := #[.slice a len cap, .int .i64 fl, .int .i64 t, undef, undef, .pointer (some ⟨w.heap.size, 0, none⟩), .int .i64 0, .pointer (some ⟨w.heap.size + 1, 0, none⟩), .pointer (some ⟨Bx, 0, none⟩), .slice a len cap, .int .i64 fl, .func (.func 176) #[] #[.pointer (some ⟨w.heap.size + 1 + 1 + 1, 0, none⟩), .pointer (some ⟨w.heap.size + 1 + 1, 0, none⟩)], .agg #[.int .i64 x.f, .int .i64 x.t, .int .i64 x.s], undef, undef, undef, undef, undef, undef, undef, undef, undef], defers := [] })
    (fun x a' _ X Y row hs hg hr => by obtain ⟨Bx, h1, h2, h3⟩ := hs; exact ⟨Bx, h1, pkBox_own (β := Unit) Bx x () X Y row h2 hg (fun r e => (hr r e).2), h3⟩)
    ?assign ?body ?done ?stop
  case assign =>
    rintro l pre x W K ⟨bS1, hB1⟩ hK
    gi_wp2
    have hz := hB1.size
    exact hK _ _ ((KeepsOthers.alloc _ _).from _) ((BB.refl _ _ _).alloc (by omega) _) ⟨bS1.alloc _, hB1.alloc (by omega) _⟩ ⟨W.heap.size, by omega, PkBox.new W x, rfl⟩
  case body =>
    rintro l pre x a' W hl ⟨r, hr⟩ ⟨bS1, hB1⟩ ⟨Bx, hBx, bX, rfl⟩ hlt
    have cT := (hB1.cell (p := ⟨w.heap.size, 0, none⟩) (by show w.heap.size < _; omega) (by show w.heap.size ≠ _; omega)).trans bT.cell
    have cS := bS1.cell
    have fS := bS1.frozen
    obtain ⟨x0, x1, x2⟩ := bX.cells
    have HBS := Lib.hid (And.intro bS1 hB1)
    clear bS1 hB1 bX hr hlt bT bS bL bF hB0
    by_cases hx : x.t < t
    · gi_wp2
      exact ⟨(KeepsOthers.setCell _ _ _).from _, (BB.refl _ _ _).set _ _, by rw [show bytW t (pre ++ [x]) = wrap64 (bytW t pre + x.s) from by rw [bytW_yes hx, IntWalk.i64_left]]; exact HBS.out.1.set _, HBS.out.2.set _ _⟩
    · gi_wp2
      exact ⟨(KeepsOthers.refl _).from _, BB.refl _ _ _, by rw [bytW_no (show ¬ x.t < t by omega)]; exact HBS.out.1, HBS.out.2⟩
  case done =>
    rintro D zs W hD rfl ⟨bS1, hB1⟩ hK
    have cS := bS1.cell
    gi_wp2
    refine ⟨by simp, .inl ⟨_, _, rfl, run_takeDeferred hK, ?_⟩⟩
    exact ⟨_, results_tmp rfl _ _ _, rfl, (hB0.trans (hB1.below (by omega) (by omega))).trans (belowK_b (w := w) (Nat.le_refl _) W D _ _ (by omega) hK rfl rfl)⟩
  case stop =>
    rintro D c pre W _ _ h _
    exact h.elim

/-- Bytes, of whatever list. -/
theorem bytes13 (a : Option Addr) (len cap : Nat) (lst : List Pk) (fl t v : Int) (hv : bytW t (sel fl lst) = v) (w : World) (h : PkR w a len cap lst) :
    Calls Try.prog 29 #[.slice a len cap, .int .i64 fl, .int .i64 t] w (Says (.int .i64 v) w) := by
  subst hv
  exact (callsIn_wide (n := 6)).1 (bytes_in Fence.wide 6 trivial trivial trivial rfl (Nat.le_refl _) a len cap lst fl t w h)
end Go.Proofs.Ytenfhjmaljleoaa
