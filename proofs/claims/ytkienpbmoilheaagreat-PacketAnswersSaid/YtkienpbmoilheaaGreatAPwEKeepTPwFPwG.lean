/- Contracts of package pointwise: Scale, Later, Ahead, Lower, Raise. By the verifier's side. -/
import Derived.Test.YtkienpbmoilheaaGreatAPwBPwCPwD
import Derived.Test.YtkienpbmoilheaaGreatABaseApartPickKeepS
import Derived.Laws.EntriesVeiled
import Derived.Test.YtkienpbmoilheaaGreatACurMToDecM
import Derived.Test.YtkienpbmoilheaaGreatACurWToCurveGrowsW
namespace Go.Proofs.YtkienpbmoilheaaGreat
open Go.RowKit
set_option linter.unusedSimpArgs false

/-- The curve in normal form with the values E is handed back, or the error that there is none. -/
def GivesE (E : Nat → Option Int) (w : World) (e : Ending) (w' : World) : Prop :=
  Below w.heap.size w w' ∧ ((∃ (a : Option Addr) (n cap : Nat) (zs : List Int) (p : Nat) (inc : Int), e = .returned (.tuple #[curV a n cap p inc, .int .i64 0]) ∧ RowZ w' a n cap zs ∧ EForm zs p inc E ∧ ∀ x, a = some x → w.heap.size ≤ x.block) ∨
    (e = .returned (.tuple #[curV none 0 0 0 0, .int .i64 3]) ∧ ¬ ECan E))

theorem GivesForm.toE {E : Nat → Option Int} (hT : Tame E) {w w' : World} {e : Ending} (h : GivesForm (encF E) w e w') : GivesE E w e w' := by
  obtain ⟨hb, ⟨a, n, cap, zs, p, inc, he, hr, hf, hx⟩ | ⟨he, hno⟩⟩ := h
  · exact ⟨hb, .inl ⟨a, n, cap, zs, p, inc, he, hr, eform_of hT hf, hx⟩⟩
  · exact ⟨hb, .inr ⟨he, fun h => hno h.can⟩⟩

theorem norm_self {zs : List Int} {p : Nat} {inc : Int} {E : Nat → Option Int} (h : EForm zs p inc E) : ∃ s, zs.length = s + p ∧ NormC zs p inc zs p inc := by
  obtain ⟨g, he, s, hs, hn⟩ := h
  obtain ⟨_, _, hN, _⟩ := g.form (fun _ => rfl) hn
  rw [← hs, firsts_atC] at hN
  exact ⟨s, hs, hN⟩

/-- What stands behind the making of the normal form and of the closure of its values: the curve in box A, a number in box A + 1, the result in box A + 2, the closure in box bv. -/
structure One (w : World) (a : Option Addr) (n cap p : Nat) (inc x : Int) (zs : List Int) (bv B : Nat) (u : World) : Prop where
  cur : Cur3 u w.heap.size (.slice a n cap) (.int .i64 p) (.int .i64 inc)
  num : u.cell? ⟨w.heap.size + 1, 0, none⟩ = some (.int .i64 x)
  res : Cur3 u (w.heap.size + 2) (.slice none 0 0) (.int .i64 0) (.int .i64 0)
  clo : u.cell? ⟨bv, 0, none⟩ = some (closPV B)
  cl : ClosG 76 #[.pointer (some ⟨B + 1, 0, none⟩), .pointer (some ⟨B, 0, none⟩)] 4194304 (atC zs p inc) u
  row : RowZ u a n cap zs
  below : Below w.heap.size w u

theorem One.call {w : World} {a : Option Addr} {n cap p : Nat} {inc x : Int} {zs : List Int} {bv B : Nat} {u v : World} (h : One w a n cap p inc x zs bv B u) (hb : Below u.heap.size u v) : One w a n cap p inc x zs bv B v :=
  ⟨h.cur.below hb, (hb.cell (lt_of_cell h.num)).trans h.num, h.res.below hb, (hb.cell (lt_of_cell h.clo)).trans h.clo, h.cl.above hb, h.row.under hb, h.below.trans (hb.mono h.below.size)⟩

theorem new_cell (w : World) (v : Value) (t : TypeId) : (w.alloc (.cells #[v] t)).cell? ⟨w.heap.size, 0, none⟩ = some v := by go_simp
theorem set3_cell {w : World} {b q : Nat} (hq : q ≠ b) (x0 x1 x2 : Value) : (((w.setCell ⟨b, 0, none⟩ x0).setCell ⟨b, 1, none⟩ x1).setCell ⟨b, 2, none⟩ x2).cell? ⟨q, 0, none⟩ = w.cell? ⟨q, 0, none⟩ := by
  rw [World.cell?_setCell_other _ _ _ _ (fun h => hq (by cases h)), World.cell?_setCell_other _ _ _ _ (fun h => hq (by cases h)), World.cell?_setCell_other _ _ _ _ (fun h => hq (by cases h; rfl))]
theorem boxes3 (w : World) (a : Option Addr) (n cap p : Nat) (inc x : Int) {W : World} (hW : ((w.alloc (.cells #[.slice a n cap, .int .i64 p, .int .i64 inc] 24)).alloc (.cells #[.int .i64 x] 3)).alloc (.cells #[.slice none 0 0, .int .i64 0, .int .i64 0] 24) = W) :
    Cur3 W w.heap.size (.slice a n cap) (.int .i64 p) (.int .i64 inc) ∧ W.cell? ⟨w.heap.size + 1, 0, none⟩ = some (.int .i64 x) ∧ Cur3 W (w.heap.size + 2) (.slice none 0 0) (.int .i64 0) (.int .i64 0) ∧ Below w.heap.size w W ∧ W.heap.size = w.heap.size + 3 ∧ W.frozen? ⟨w.heap.size + 1, 0, none⟩ = false := by
  subst hW
  refine ⟨((Cur3.new w _ _ _ _).alloc _).alloc _, by go_simp, ?_, (((Below.refl _ _).alloc (Nat.le_refl _) _).alloc (by simp) _).alloc (by simp; omega) _, by simp, by go_simp⟩
  have := Cur3.new2 (w.alloc (.cells #[.slice a n cap, .int .i64 p, .int .i64 inc] 24)) (.slice none 0 0) (.int .i64 0) (.int .i64 0) 24 (.cells #[.int .i64 x] 3)
  simpa using this

theorem start_i (a : Option Addr) (n cap : Nat) (zs : List Int) (p : Nat) (inc : Int) (g : Good zs p inc) (hn : NormC zs p inc zs p inc) (s : Nat) (hs : zs.length = s + p) (w : World) (h : RowZ w a n cap zs) :
    Calls Tryz.prog 60 #[curV a n cap p inc] w (Says (.int .i64 s) w) := start_at a n cap zs p inc g hn s hs w h

structure TameOnly (E : Nat → Option Int) : Prop where
  tame : Tame E

set_option maxRecDepth 100000 in
set_option maxHeartbeats 3200000 in
theorem later_ok (a : Option Addr) (n cap : Nat) (zs : List Int) (p : Nat) (inc : Int) (g : Good zs p inc) (d : Nat) (hd : d ≤ 401) (w : World) (h : RowZ w a n cap zs) :
    Calls Tryz.prog 36 #[curV a n cap p inc, .int .i64 (d : Int)] w (GivesE (eLater d zs p inc) w) := by
  have hmf : ∀ (fn : Fn) (first cap : Array Value) (w : World), (Instr.makeFunc fn first cap).run Tryz.prog w = .ok (.func fn first cap) w := fun _ _ _ _ => rfl
  obtain ⟨W, hW⟩ : ∃ W, ((w.alloc (.cells #[.slice a n cap, .int .i64 p, .int .i64 inc] 24)).alloc (.cells #[.int .i64 (d : Int)] 3)).alloc (.cells #[.slice none 0 0, .int .i64 0, .int .i64 0] 24) = W := ⟨_, rfl⟩
  obtain ⟨k0, k1, k2, hB, hsz, kf⟩ := boxes3 w a n cap p inc (d : Int) hW
  have K0 := Lib.hid k0
  have K1 := Lib.hid (And.intro k1 kf)
  have K2 := Lib.hid k2
  have H := Lib.hid (h.under hB)
  have HB := Lib.hid hB
  have HSZ := Lib.hid hsz
  have G := Lib.hid g
  have HW := Lib.hid hW
  have HX := Lib.hid (And.intro (show (0 : Int) ≤ (d : Int) by omega) (show (d : Int) ≤ 1048576 by omega))
  have HD := Lib.hid hd
  clear hd
  clear h hB hsz g hW k0 k1 k2 kf
  go_enter Tryz.func36, Tryz.ntmps36
  go_wp2_with fail
  rw [HW.out]
  refine (checked_ok a n cap zs p inc G.out (d : Int) 0 1048576 HX.out.1 HX.out.2 W H.out).mono ?_
  rintro e w1 ⟨a', n', cap', zs', p', inc', rfl, hb, hr, hn, hx⟩
  have hne : ∀ y : Addr, a' = some y → 1 ≤ n' → y.block ≠ w.heap.size := fun y hy _ => by have := hx y hy; have := HSZ.out; omega
  obtain ⟨c0, c1, c2, f0, f1, f2⟩ := K0.out.below hb
  have hbs := HB.out.trans (hb.mono HB.out.size)
  obtain ⟨W1, hW1⟩ : ∃ W1, (((w1.setCell ⟨w.heap.size, 0, none⟩ (.slice a' n' cap')).setCell ⟨w.heap.size, 1, none⟩ (.int .i64 p')).setCell ⟨w.heap.size, 2, none⟩ (.int .i64 inc')) = W1 := ⟨_, rfl⟩
  have L0 := Lib.hid (show Cur3 W1 w.heap.size (.slice a' n' cap') (.int .i64 p') (.int .i64 inc') by rw [← hW1]; exact (K0.out.below hb).set _ _ _)
  have L1 := Lib.hid (show W1.cell? ⟨w.heap.size + 1, 0, none⟩ = some (.int .i64 (d : Int)) by rw [← hW1, set3_cell (by omega)]; exact (hb.cell (lt_of_cell K1.out.1)).trans K1.out.1)
  have L2 := Lib.hid (show Cur3 W1 (w.heap.size + 2) (.slice none 0 0) (.int .i64 0) (.int .i64 0) by rw [← hW1]; exact (((K2.out.below hb).other (by omega) _ _).other (by omega) _ _).other (by omega) _ _)
  have LR := Lib.hid (show RowZ W1 a' n' cap' zs' by rw [← hW1]; exact ((hr.store hne _ _).store hne _ _).store hne _ _)
  have LB := Lib.hid (show Below w.heap.size w W1 by rw [← hW1]; exact below_set3 hbs (Nat.le_refl _) _ _ _)
  have G' := Lib.hid (hn.good G.out)
  have HEF := Lib.hid (hn.eform G.out)
  have HW1 := Lib.hid hW1
  have FK := Lib.hid ((World.frozen?_setCell _ _ _ _).trans ((World.frozen?_setCell _ _ _ _).trans ((World.frozen?_setCell _ _ _ _).trans ((hb.frozen (p := ⟨w.heap.size + 1, 0, none⟩) (lt_of_cell K1.out.1)).trans K1.out.2))) : (((w1.setCell ⟨w.heap.size, 0, none⟩ (.slice a' n' cap')).setCell ⟨w.heap.size, 1, none⟩ (.int .i64 p')).setCell ⟨w.heap.size, 2, none⟩ (.int .i64 inc')).frozen? ⟨w.heap.size + 1, 0, none⟩ = false)
  rw [hW1] at FK
  have k1 := L1.out
  have kf := FK.out
  have k3 := (hb.cell (lt_of_cell K1.out.1)).trans K1.out.1
  have k4 := (hb.frozen (p := ⟨w.heap.size + 1, 0, none⟩) (lt_of_cell K1.out.1)).trans K1.out.2
  have hd4 : (d : Int) ≤ 401 := by have := HD.out; omega
  have HNE := Lib.hid (show ∀ y : Addr, a' = some y → 1 ≤ n' → y.block ≠ w.heap.size + 1 from fun y hy _ => by have := hx y hy; have := HSZ.out; omega)
  clear hb hr hn hx hne hbs hW1
  go_wp2_with fail
  all_goals rw [HW1.out]
  obtain ⟨W1b, hW1b⟩ : ∃ W1b, W1.setCell ⟨w.heap.size + 1, 0, none⟩ (.int .i64 d) = W1b := ⟨_, rfl⟩
  have L0 := Lib.hid (show Cur3 W1b w.heap.size (.slice a' n' cap') (.int .i64 p') (.int .i64 inc') by rw [← hW1b]; exact L0.out.other (by omega) _ _)
  have L1 := Lib.hid (show W1b.cell? ⟨w.heap.size + 1, 0, none⟩ = some (.int .i64 d) by rw [← hW1b]; exact World.cell?_setCell_same _ _ _ L1.out)
  have L2 := Lib.hid (show Cur3 W1b (w.heap.size + 2) (.slice none 0 0) (.int .i64 0) (.int .i64 0) by rw [← hW1b]; exact L2.out.other (by omega) _ _)
  have LR := Lib.hid (show RowZ W1b a' n' cap' zs' by rw [← hW1b]; exact LR.out.store HNE.out _ _)
  have LB := Lib.hid (show Below w.heap.size w W1b by rw [← hW1b]; exact LB.out.setCell (by show w.heap.size ≤ w.heap.size + 1; omega) _)
  have HW1b := Lib.hid hW1b
  clear hW1b k1 kf k3 k4
  rw [HW1b.out]
  refine (pvalues_any a' n' cap' zs' p' inc' G'.out W1b LR.out).mono ?_
  rintro e w2 ⟨B, rfl, hb2, hB1, hB2, hcl⟩
  clear c0 c1 c2 f0 f1 f2
  simp only [closPV]
  obtain ⟨W3, hW3⟩ : ∃ W3, w2.alloc (.cells #[.func (.func 76) #[] #[.pointer (some ⟨B + 1, 0, none⟩), .pointer (some ⟨B, 0, none⟩)]] 33) = W3 := ⟨_, rfl⟩
  have HW3 := Lib.hid hW3
  have O0 := Lib.hid (show One w a' n' cap' p' inc' (d : Int) zs' w2.heap.size B W3 by
    have hz : Below w2.heap.size w2 W3 := by rw [← hW3]; exact (Below.refl _ _).alloc (Nat.le_refl _) _
    have hz2 : Below W1b.heap.size W1b W3 := hb2.trans (hz.mono hb2.size)
    exact ⟨L0.out.below hz2, (hz2.cell (lt_of_cell L1.out)).trans L1.out, L2.out.below hz2, by rw [← hW3]; exact new_cell _ _ _, hcl.above hz, LR.out.under hz2, LB.out.trans (hz2.mono LB.out.size)⟩)
  clear hW3 hb2 hB1 hB2 hcl
  go_wp2_with fail
  rw [HW3.out]
  have EV := Lib.hid (show ∀ (args : Array Value) (w : World), (callFunc 76 args).run Tryz.prog w = .ok (.enter 76 args) w from enters_of Tryz.func76 (by kernel_rfl) rfl)
  have EX := Lib.hid (show ∀ (args : Array Value) (w : World), (callFunc 61 args).run Tryz.prog w = .ok (.enter 61 args) w from enters_of Tryz.func61 (by kernel_rfl) rfl)
  have hEE : eLater d zs' p' inc' = eLater d zs p inc := by
    funext t
    unfold eLater
    simp only [HEF.out.2.1]
  obtain ⟨s, hs, hns⟩ := norm_self HEF.out
  have gp1 := G'.out.p1
  have gp2 := G'.out.p2
  have gfw := G'.out.few
  have hsl : zs'.length - p' = s := by omega
  have HFO := Lib.hid (later_from (d := d) G'.out HD.out)
  rw [hsl] at HFO
  have hdd := HD.out
  have hwr : IntKind.i64.wrap ((s : Int) + (d : Int)) = (s : Int) + (d : Int) := IntWalk.i64_in _ ⟨by omega, by omega⟩
  obtain ⟨c, hper⟩ := HFO.out.per
  have HPer := Lib.hid hper
  have HCG := Lib.hid (show ∀ u, One w a' n' cap' p' inc' (d : Int) zs' w2.heap.size B u → ClosG 61 #[.pointer (some ⟨w.heap.size + 1, 0, none⟩), .pointer (some ⟨w2.heap.size, 0, none⟩)] (s + d + 2 * p') (encF (eLater d zs' p' inc')) u from fun u hu =>
    (later1_any hu.clo hu.num EV.out (hu.cl.less (show s + d + 2 * p' ≤ 4194304 by omega)) (by omega)).congr fun t ht => (later_val G'.out).symm)
  clear hper
  have KS := Lib.hid (show ∀ u, One w a' n' cap' p' inc' (d : Int) zs' w2.heap.size B u → (fun u => u.cell? ⟨w.heap.size, 0, none⟩ = some (.slice a' n' cap') ∧ u.cell? ⟨w.heap.size, 1, none⟩ = some (.int .i64 p') ∧ u.cell? ⟨w.heap.size, 2, none⟩ = some (.int .i64 inc') ∧ u.cell? ⟨w.heap.size + 1, 0, none⟩ = some (.int .i64 ((d : Int))) ∧ Hid (One w a' n' cap' p' inc' ((d : Int)) zs' w2.heap.size B u)) u from fun u hu => ⟨hu.cur.c0, hu.cur.c1, hu.cur.c2, hu.num, hu⟩)
  have O1 := Lib.hid (show One w a' n' cap' p' inc' (d : Int) zs' w2.heap.size B W3.drew from O0.out.call ((Below.refl _ _).drewN 1))
  have HNS := Lib.hid hns
  have HS0 := Lib.hid (And.intro hs hsl)
  clear hns hs hsl
  have hs400 : s ≤ 400 := by have := HS0.out; omega
  refine wp_region_keeps (fun u => u.cell? ⟨w.heap.size, 0, none⟩ = some (.slice a' n' cap') ∧ u.cell? ⟨w.heap.size, 1, none⟩ = some (.int .i64 p') ∧ u.cell? ⟨w.heap.size, 2, none⟩ = some (.int .i64 inc') ∧ u.cell? ⟨w.heap.size + 1, 0, none⟩ = some (.int .i64 ((d : Int))) ∧ Hid (One w a' n' cap' p' inc' ((d : Int)) zs' w2.heap.size B u)) 10 2 (by kernel_rfl) (by kernel_rfl) (KS.out _ O1.out) (fun hHeld0 => ?_)
  refine wpAnyK_take (i := 0) (v := ?_) rfl (by kernel_rfl) (fun _ _ _ h => h) (Or.inl ⟨by rfl, ?_⟩) (by assumption) ?_
  rotate_left
  · (intro w hSw; (try dsimp only at hSw); go_simp; try with_reducible rfl)
  try simp only [Act.put, List.getElem_toArray, List.getElem_cons_zero, List.getElem_cons_succ, List.setIfInBounds_toArray, List.set_cons_zero, List.set_cons_succ]
  refine wpAnyK_take (i := 2) (v := ?_) rfl (by kernel_rfl) (fun _ _ _ h => h) (Or.inl ⟨by rfl, ?_⟩) (by assumption) ?_
  rotate_left
  · (intro w hSw; (try dsimp only at hSw); go_simp; try with_reducible rfl)
  try simp only [Act.put, List.getElem_toArray, List.getElem_cons_zero, List.getElem_cons_succ, List.setIfInBounds_toArray, List.set_cons_zero, List.set_cons_succ]
  refine wpAnyK_take (i := 4) (v := ?_) rfl (by kernel_rfl) (fun _ _ _ h => h) (Or.inl ⟨by rfl, ?_⟩) (by assumption) ?_
  rotate_left
  · (intro w hSw; (try dsimp only at hSw); go_simp; try with_reducible rfl)
  try simp only [Act.put, List.getElem_toArray, List.getElem_cons_zero, List.getElem_cons_succ, List.setIfInBounds_toArray, List.set_cons_zero, List.set_cons_succ]
  refine wpAnyK_take (i := 5) (v := ?_) rfl (by kernel_rfl) (fun _ _ _ h => h) (Or.inl ⟨by rfl, ?_⟩) (by assumption) ?_
  rotate_left
  · (intro w hSw; (try dsimp only at hSw); go_simp; try with_reducible rfl)
  try simp only [Act.put, List.getElem_toArray, List.getElem_cons_zero, List.getElem_cons_succ, List.setIfInBounds_toArray, List.set_cons_zero, List.set_cons_succ]
  refine wpAnyK_take (i := 6) (v := ?_) rfl (by kernel_rfl) (fun _ _ _ h => h) (Or.inl ⟨by rfl, ?_⟩) (by assumption) ?_
  rotate_left
  · (intro w hSw; (try dsimp only at hSw); go_simp; try with_reducible rfl)
  try simp only [Act.put, List.getElem_toArray, List.getElem_cons_zero, List.getElem_cons_succ, List.setIfInBounds_toArray, List.set_cons_zero, List.set_cons_succ]
  refine wpAnyK_step (i := 1) rfl (by kernel_rfl) (fun K hK => ?_)
  go_simp
  with_reducible refine (start_i a' n' cap' zs' p' inc' G'.out HNS.out s HS0.out.1 _ O1.out.row).mono ?_
  rintro e w4 ⟨rfl, hb4⟩
  have O2 := Lib.hid (O1.out.call hb4)
  clear hb4
  refine hK.out _ _ (KS.out _ O2.out) (fun hHeld0x => ?_)
  clear hK K hHeld0
  try simp only [Act.put, List.getElem_toArray, List.getElem_cons_zero, List.getElem_cons_succ, List.setIfInBounds_toArray, List.set_cons_zero, List.set_cons_succ]
  refine wpAnyK_take (i := 3) (v := ?_) rfl (by kernel_rfl) (fun _ _ _ h => h) (Or.inl ⟨by rfl, ?_⟩) (by assumption) ?_
  rotate_left
  · (intro w hSw; (try dsimp only at hSw); go_simp; try with_reducible rfl)
  try simp only [Act.put, List.getElem_toArray, List.getElem_cons_zero, List.getElem_cons_succ, List.setIfInBounds_toArray, List.set_cons_zero, List.set_cons_succ]
  refine wpAnyK_step (i := 7) rfl (by kernel_rfl) (fun K hK => ?_)
  go_simp
  with_reducible refine (pcurve_i 61 #[.pointer (some ⟨w.heap.size + 1, 0, none⟩), .pointer (some ⟨w2.heap.size, 0, none⟩)] (encF (eLater d zs' p' inc')) ((s : Int) + (d : Int)) (s + d) (by omega) p' c gp1 gp2 (by omega) HFO.out.mid HPer.out _ EX.out (HCG.out _ O2.out)).mono ?_
  rintro e w5 ⟨hb5, ⟨a5, n5, cap5, zs5, p5, inc5, rfl, hr5, hf5, hx5⟩ | ⟨rfl, hno5⟩⟩
  · have HP := Lib.hid (GivesForm.toE HFO.out.tame (form_post (b := w.heap.size + 2) O2.out.below (by omega) O2.out.res.lt hb5 hr5 hx5 hf5))
    have O3 := Lib.hid (O2.out.call hb5)
    rw [hEE] at HP
    refine hK.out _ _ (KS.out _ O3.out) (fun hHeldz => ?_)
    clear hK K hHeld0x hb5 hr5 hf5 hx5
    try simp only [Act.put, List.getElem_toArray, List.getElem_cons_zero, List.getElem_cons_succ, List.setIfInBounds_toArray, List.set_cons_zero, List.set_cons_succ]
    refine wpAnyK_take (i := 8) (v := ?_) rfl (by kernel_rfl) (fun _ _ _ h => h) (Or.inl ⟨by rfl, ?_⟩) (by assumption) ?_
    rotate_left
    · (intro w hSw; (try dsimp only at hSw); go_simp; try with_reducible rfl)
    try simp only [Act.put, List.getElem_toArray, List.getElem_cons_zero, List.getElem_cons_succ, List.setIfInBounds_toArray, List.set_cons_zero, List.set_cons_succ]
    refine wpAnyK_take (i := 9) (v := ?_) rfl (by kernel_rfl) (fun _ _ _ h => h) (Or.inl ⟨by rfl, ?_⟩) (by assumption) ?_
    rotate_left
    · (intro w hSw; (try dsimp only at hSw); go_simp; try with_reducible rfl)
    try simp only [Act.put, List.getElem_toArray, List.getElem_cons_zero, List.getElem_cons_succ, List.setIfInBounds_toArray, List.set_cons_zero, List.set_cons_succ]
    refine wpAnyK_done (by kernel_rfl) ?_
    simp only [List.drop_succ_cons, List.drop_zero]
    obtain ⟨d0, d1, d2, g0, g1, g2⟩ := O3.out.res
    clear hHeldz
    go_wp2_with fail
    exact bodyPost_ret (v := .tuple #[curV a5 n5 cap5 p5 inc5, .int .i64 0]) (by simp [results, Tryz.results36, go_sem, d0, d1, d2]) rfl HP.out
  · have HP := Lib.hid (GivesForm.toE HFO.out.tame (none_post (b := w.heap.size + 2) O2.out.below (by omega) hb5 hno5))
    have O3 := Lib.hid (O2.out.call hb5)
    rw [hEE] at HP
    refine hK.out _ _ (KS.out _ O3.out) (fun hHeldz => ?_)
    clear hK K hHeld0x hb5 hno5
    try simp only [Act.put, List.getElem_toArray, List.getElem_cons_zero, List.getElem_cons_succ, List.setIfInBounds_toArray, List.set_cons_zero, List.set_cons_succ]
    refine wpAnyK_take (i := 8) (v := ?_) rfl (by kernel_rfl) (fun _ _ _ h => h) (Or.inl ⟨by rfl, ?_⟩) (by assumption) ?_
    rotate_left
    · (intro w hSw; (try dsimp only at hSw); go_simp; try with_reducible rfl)
    try simp only [Act.put, List.getElem_toArray, List.getElem_cons_zero, List.getElem_cons_succ, List.setIfInBounds_toArray, List.set_cons_zero, List.set_cons_succ]
    refine wpAnyK_take (i := 9) (v := ?_) rfl (by kernel_rfl) (fun _ _ _ h => h) (Or.inl ⟨by rfl, ?_⟩) (by assumption) ?_
    rotate_left
    · (intro w hSw; (try dsimp only at hSw); go_simp; try with_reducible rfl)
    try simp only [Act.put, List.getElem_toArray, List.getElem_cons_zero, List.getElem_cons_succ, List.setIfInBounds_toArray, List.set_cons_zero, List.set_cons_succ]
    refine wpAnyK_done (by kernel_rfl) ?_
    simp only [List.drop_succ_cons, List.drop_zero]
    obtain ⟨d0, d1, d2, g0, g1, g2⟩ := O3.out.res
    clear hHeldz
    go_wp2_with fail
    exact bodyPost_ret (v := .tuple #[curV none 0 0 0 0, .int .i64 3]) (by simp [results, Tryz.results36, go_sem, d0, d1, d2]) rfl HP.out

set_option maxRecDepth 100000 in
set_option maxHeartbeats 3200000 in
theorem lower_ok (a : Option Addr) (n cap : Nat) (zs : List Int) (p : Nat) (inc : Int) (g : Good zs p inc) (x : Int) (hx1 : 0 ≤ x) (hx2 : x ≤ 1073741824) (w : World) (h : RowZ w a n cap zs) :
    Calls Tryz.prog 35 #[curV a n cap p inc, .int .i64 x] w (GivesE (eLower x zs p inc) w) := by
  have hmf : ∀ (fn : Fn) (first cap : Array Value) (w : World), (Instr.makeFunc fn first cap).run Tryz.prog w = .ok (.func fn first cap) w := fun _ _ _ _ => rfl
  obtain ⟨W, hW⟩ : ∃ W, ((w.alloc (.cells #[.slice a n cap, .int .i64 p, .int .i64 inc] 24)).alloc (.cells #[.int .i64 x] 3)).alloc (.cells #[.slice none 0 0, .int .i64 0, .int .i64 0] 24) = W := ⟨_, rfl⟩
  obtain ⟨k0, k1, k2, hB, hsz, kf⟩ := boxes3 w a n cap p inc x hW
  have K0 := Lib.hid k0
  have K1 := Lib.hid (And.intro k1 kf)
  have K2 := Lib.hid k2
  have H := Lib.hid (h.under hB)
  have HB := Lib.hid hB
  have HSZ := Lib.hid hsz
  have G := Lib.hid g
  have HW := Lib.hid hW
  have HX := Lib.hid (And.intro hx1 hx2)
  clear h hB hsz g hW k0 k1 k2 kf
  go_enter Tryz.func35, Tryz.ntmps35
  go_wp2_with fail
  rw [HW.out]
  refine (checked_ok a n cap zs p inc G.out x 0 1073741824 HX.out.1 HX.out.2 W H.out).mono ?_
  rintro e w1 ⟨a', n', cap', zs', p', inc', rfl, hb, hr, hn, hx⟩
  have hne : ∀ y : Addr, a' = some y → 1 ≤ n' → y.block ≠ w.heap.size := fun y hy _ => by have := hx y hy; have := HSZ.out; omega
  obtain ⟨c0, c1, c2, f0, f1, f2⟩ := K0.out.below hb
  have hbs := HB.out.trans (hb.mono HB.out.size)
  obtain ⟨W1, hW1⟩ : ∃ W1, (((w1.setCell ⟨w.heap.size, 0, none⟩ (.slice a' n' cap')).setCell ⟨w.heap.size, 1, none⟩ (.int .i64 p')).setCell ⟨w.heap.size, 2, none⟩ (.int .i64 inc')) = W1 := ⟨_, rfl⟩
  have L0 := Lib.hid (show Cur3 W1 w.heap.size (.slice a' n' cap') (.int .i64 p') (.int .i64 inc') by rw [← hW1]; exact (K0.out.below hb).set _ _ _)
  have L1 := Lib.hid (show W1.cell? ⟨w.heap.size + 1, 0, none⟩ = some (.int .i64 x) by rw [← hW1, set3_cell (by omega)]; exact (hb.cell (lt_of_cell K1.out.1)).trans K1.out.1)
  have L2 := Lib.hid (show Cur3 W1 (w.heap.size + 2) (.slice none 0 0) (.int .i64 0) (.int .i64 0) by rw [← hW1]; exact (((K2.out.below hb).other (by omega) _ _).other (by omega) _ _).other (by omega) _ _)
  have LR := Lib.hid (show RowZ W1 a' n' cap' zs' by rw [← hW1]; exact ((hr.store hne _ _).store hne _ _).store hne _ _)
  have LB := Lib.hid (show Below w.heap.size w W1 by rw [← hW1]; exact below_set3 hbs (Nat.le_refl _) _ _ _)
  have G' := Lib.hid (hn.good G.out)
  have HEF := Lib.hid (hn.eform G.out)
  have HW1 := Lib.hid hW1
  have FK := Lib.hid ((World.frozen?_setCell _ _ _ _).trans ((World.frozen?_setCell _ _ _ _).trans ((World.frozen?_setCell _ _ _ _).trans ((hb.frozen (p := ⟨w.heap.size + 1, 0, none⟩) (lt_of_cell K1.out.1)).trans K1.out.2))) : (((w1.setCell ⟨w.heap.size, 0, none⟩ (.slice a' n' cap')).setCell ⟨w.heap.size, 1, none⟩ (.int .i64 p')).setCell ⟨w.heap.size, 2, none⟩ (.int .i64 inc')).frozen? ⟨w.heap.size + 1, 0, none⟩ = false)
  rw [hW1] at FK
  clear hb hr hn hx hne hbs hW1 FK
  go_wp2_with fail
  rw [HW1.out]
  refine (pvalues_any a' n' cap' zs' p' inc' G'.out W1 LR.out).mono ?_
  rintro e w2 ⟨B, rfl, hb2, hB1, hB2, hcl⟩
  clear c0 c1 c2 f0 f1 f2
  simp only [closPV]
  obtain ⟨W3, hW3⟩ : ∃ W3, w2.alloc (.cells #[.func (.func 76) #[] #[.pointer (some ⟨B + 1, 0, none⟩), .pointer (some ⟨B, 0, none⟩)]] 33) = W3 := ⟨_, rfl⟩
  have HW3 := Lib.hid hW3
  have O0 := Lib.hid (show One w a' n' cap' p' inc' x zs' w2.heap.size B W3 by
    have hz : Below w2.heap.size w2 W3 := by rw [← hW3]; exact (Below.refl _ _).alloc (Nat.le_refl _) _
    have hz2 : Below W1.heap.size W1 W3 := hb2.trans (hz.mono hb2.size)
    exact ⟨L0.out.below hz2, (hz2.cell (lt_of_cell L1.out)).trans L1.out, L2.out.below hz2, by rw [← hW3]; exact new_cell _ _ _, hcl.above hz, LR.out.under hz2, LB.out.trans (hz2.mono LB.out.size)⟩)
  clear hW3 hb2 hB1 hB2 hcl
  go_wp2_with fail
  rw [HW3.out]
  have EV := Lib.hid (show ∀ (args : Array Value) (w : World), (callFunc 76 args).run Tryz.prog w = .ok (.enter 76 args) w from enters_of Tryz.func76 (by kernel_rfl) rfl)
  have EX := Lib.hid (show ∀ (args : Array Value) (w : World), (callFunc 57 args).run Tryz.prog w = .ok (.enter 57 args) w from enters_of Tryz.func57 (by kernel_rfl) rfl)
  have hEE : eLower x zs' p' inc' = eLower x zs p inc := by
    funext t
    unfold eLower
    simp only [HEF.out.2.1]
  obtain ⟨s, hs, hns⟩ := norm_self HEF.out
  have gp1 := G'.out.p1
  have gp2 := G'.out.p2
  have gfw := G'.out.few
  have hsl : zs'.length - p' = s := by omega
  obtain ⟨ls1, ls2, ls3⟩ := lower_settle G'.out HX.out.1 HX.out.2
  obtain ⟨GR, hGR⟩ : ∃ GR, growI zs' p' inc' p' = GR := ⟨_, rfl⟩
  rw [hGR] at ls1
  have HGR := Lib.hid (And.intro hGR (show Mid GR by rw [← hGR]; exact grow_mid G'.out gp2))
  have HFO := Lib.hid (show TameOnly (eLower x zs' p' inc') from ⟨ls2⟩)
  have HSE := Lib.hid (And.intro ls1 ls3)
  have HCG := Lib.hid (show ∀ u, One w a' n' cap' p' inc' x zs' w2.heap.size B u → ClosG 57 #[.pointer (some ⟨w2.heap.size, 0, none⟩), .pointer (some ⟨w.heap.size + 1, 0, none⟩)] (1000) (encF (eLower x zs' p' inc')) u from fun u hu =>
    (lower1_any hu.clo hu.num EV.out (hu.cl.less (show 1000 ≤ 4194304 by omega)) HX.out.1 HX.out.2 (fun t ht => by have := (at_mid G'.out (t := t) (by omega)).bd; omega)).congr fun t ht => (lower_val G'.out (by omega)).symm)
  clear ls1 ls2 ls3 hGR
  have KS := Lib.hid (show ∀ u, One w a' n' cap' p' inc' x zs' w2.heap.size B u → (fun u => u.cell? ⟨w.heap.size, 0, none⟩ = some (.slice a' n' cap') ∧ u.cell? ⟨w.heap.size, 1, none⟩ = some (.int .i64 p') ∧ u.cell? ⟨w.heap.size, 2, none⟩ = some (.int .i64 inc') ∧ u.cell? ⟨w.heap.size + 1, 0, none⟩ = some (.int .i64 x) ∧ Hid (One w a' n' cap' p' inc' x zs' w2.heap.size B u)) u from fun u hu => ⟨hu.cur.c0, hu.cur.c1, hu.cur.c2, hu.num, hu⟩)
  have O1 := Lib.hid (show One w a' n' cap' p' inc' x zs' w2.heap.size B W3.drew from O0.out.call ((Below.refl _ _).drewN 1))
  have HNS := Lib.hid hns
  have HS0 := Lib.hid (And.intro hs hsl)
  clear hns hs hsl
  have hs400 : s ≤ 400 := by have := HS0.out; omega
  refine wp_region_keeps (fun u => u.cell? ⟨w.heap.size, 0, none⟩ = some (.slice a' n' cap') ∧ u.cell? ⟨w.heap.size, 1, none⟩ = some (.int .i64 p') ∧ u.cell? ⟨w.heap.size, 2, none⟩ = some (.int .i64 inc') ∧ u.cell? ⟨w.heap.size + 1, 0, none⟩ = some (.int .i64 x) ∧ Hid (One w a' n' cap' p' inc' x zs' w2.heap.size B u)) 10 2 (by kernel_rfl) (by kernel_rfl) (KS.out _ O1.out) (fun hHeld0 => ?_)
  refine wpAnyK_take (i := 0) (v := ?_) rfl (by kernel_rfl) (fun _ _ _ h => h) (Or.inl ⟨by rfl, ?_⟩) (by assumption) ?_
  rotate_left
  · (intro w hSw; (try dsimp only at hSw); go_simp; try with_reducible rfl)
  try simp only [Act.put, List.getElem_toArray, List.getElem_cons_zero, List.getElem_cons_succ, List.setIfInBounds_toArray, List.set_cons_zero, List.set_cons_succ]
  refine wpAnyK_take (i := 1) (v := ?_) rfl (by kernel_rfl) (fun _ _ _ h => h) (Or.inl ⟨by rfl, ?_⟩) (by assumption) ?_
  rotate_left
  · (intro w hSw; (try dsimp only at hSw); go_simp; try with_reducible rfl)
  try simp only [Act.put, List.getElem_toArray, List.getElem_cons_zero, List.getElem_cons_succ, List.setIfInBounds_toArray, List.set_cons_zero, List.set_cons_succ]
  refine wpAnyK_take (i := 2) (v := ?_) rfl (by kernel_rfl) (fun _ _ _ h => h) (Or.inl ⟨by rfl, ?_⟩) (by assumption) ?_
  rotate_left
  · (intro w hSw; (try dsimp only at hSw); go_simp; try with_reducible rfl)
  try simp only [Act.put, List.getElem_toArray, List.getElem_cons_zero, List.getElem_cons_succ, List.setIfInBounds_toArray, List.set_cons_zero, List.set_cons_succ]
  refine wpAnyK_take (i := 3) (v := ?_) rfl (by kernel_rfl) (fun _ _ _ h => h) (Or.inl ⟨by rfl, ?_⟩) (by assumption) ?_
  rotate_left
  · (intro w hSw; (try dsimp only at hSw); go_simp; try with_reducible rfl)
  try simp only [Act.put, List.getElem_toArray, List.getElem_cons_zero, List.getElem_cons_succ, List.setIfInBounds_toArray, List.set_cons_zero, List.set_cons_succ]
  refine wpAnyK_take (i := 4) (v := ?_) rfl (by kernel_rfl) (fun _ _ _ h => h) (Or.inl ⟨by rfl, ?_⟩) (by assumption) ?_
  rotate_left
  · (intro w hSw; (try dsimp only at hSw); go_simp; try with_reducible rfl)
  try simp only [Act.put, List.getElem_toArray, List.getElem_cons_zero, List.getElem_cons_succ, List.setIfInBounds_toArray, List.set_cons_zero, List.set_cons_succ]
  refine wpAnyK_take (i := 6) (v := ?_) rfl (by kernel_rfl) (fun _ _ _ h => h) (Or.inl ⟨by rfl, ?_⟩) (by assumption) ?_
  rotate_left
  · (intro w hSw; (try dsimp only at hSw); go_simp; try with_reducible rfl)
  try simp only [Act.put, List.getElem_toArray, List.getElem_cons_zero, List.getElem_cons_succ, List.setIfInBounds_toArray, List.set_cons_zero, List.set_cons_succ]
  refine wpAnyK_step (i := 5) rfl (by kernel_rfl) (fun K hK => ?_)
  go_simp
  with_reducible refine (growth_any a' n' cap' zs' p' inc' G'.out p' gp2 GR HGR.out.1 _ O1.out.row).mono ?_
  rintro e w4 ⟨rfl, hb4⟩
  have O2 := Lib.hid (O1.out.call hb4)
  clear hb4
  refine hK.out _ _ (KS.out _ O2.out) (fun hHeld0x => ?_)
  clear hK K hHeld0
  try simp only [Act.put, List.getElem_toArray, List.getElem_cons_zero, List.getElem_cons_succ, List.setIfInBounds_toArray, List.set_cons_zero, List.set_cons_succ]
  refine wpAnyK_step (i := 7) rfl (by kernel_rfl) (fun K hK => ?_)
  go_simp
  with_reducible refine (settled_any 57 #[.pointer (some ⟨w2.heap.size, 0, none⟩), .pointer (some ⟨w.heap.size + 1, 0, none⟩)] (encF (eLower x zs' p' inc')) p' GR gp1 gp2 (fun t ht => HSE.out.2 t (by omega)) HGR.out.2 HSE.out.1 _ EX.out (HCG.out _ O2.out)).mono ?_
  rintro e w5 ⟨hb5, ⟨a5, n5, cap5, zs5, p5, inc5, rfl, hr5, hf5, hx5⟩ | ⟨rfl, hno5⟩⟩
  · have HP := Lib.hid (GivesForm.toE HFO.out.tame (form_post (b := w.heap.size + 2) O2.out.below (by omega) O2.out.res.lt hb5 hr5 hx5 hf5))
    have O3 := Lib.hid (O2.out.call hb5)
    rw [hEE] at HP
    refine hK.out _ _ (KS.out _ O3.out) (fun hHeldz => ?_)
    clear hK K hHeld0x hb5 hr5 hf5 hx5
    try simp only [Act.put, List.getElem_toArray, List.getElem_cons_zero, List.getElem_cons_succ, List.setIfInBounds_toArray, List.set_cons_zero, List.set_cons_succ]
    refine wpAnyK_take (i := 8) (v := ?_) rfl (by kernel_rfl) (fun _ _ _ h => h) (Or.inl ⟨by rfl, ?_⟩) (by assumption) ?_
    rotate_left
    · (intro w hSw; (try dsimp only at hSw); go_simp; try with_reducible rfl)
    try simp only [Act.put, List.getElem_toArray, List.getElem_cons_zero, List.getElem_cons_succ, List.setIfInBounds_toArray, List.set_cons_zero, List.set_cons_succ]
    refine wpAnyK_take (i := 9) (v := ?_) rfl (by kernel_rfl) (fun _ _ _ h => h) (Or.inl ⟨by rfl, ?_⟩) (by assumption) ?_
    rotate_left
    · (intro w hSw; (try dsimp only at hSw); go_simp; try with_reducible rfl)
    try simp only [Act.put, List.getElem_toArray, List.getElem_cons_zero, List.getElem_cons_succ, List.setIfInBounds_toArray, List.set_cons_zero, List.set_cons_succ]
    refine wpAnyK_done (by kernel_rfl) ?_
    simp only [List.drop_succ_cons, List.drop_zero]
    obtain ⟨d0, d1, d2, g0, g1, g2⟩ := O3.out.res
    clear hHeldz
    go_wp2_with fail
    exact bodyPost_ret (v := .tuple #[curV a5 n5 cap5 p5 inc5, .int .i64 0]) (by simp [results, Tryz.results35, go_sem, d0, d1, d2]) rfl HP.out
  · have HP := Lib.hid (GivesForm.toE HFO.out.tame (none_post (b := w.heap.size + 2) O2.out.below (by omega) hb5 hno5))
    have O3 := Lib.hid (O2.out.call hb5)
    rw [hEE] at HP
    refine hK.out _ _ (KS.out _ O3.out) (fun hHeldz => ?_)
    clear hK K hHeld0x hb5 hno5
    try simp only [Act.put, List.getElem_toArray, List.getElem_cons_zero, List.getElem_cons_succ, List.setIfInBounds_toArray, List.set_cons_zero, List.set_cons_succ]
    refine wpAnyK_take (i := 8) (v := ?_) rfl (by kernel_rfl) (fun _ _ _ h => h) (Or.inl ⟨by rfl, ?_⟩) (by assumption) ?_
    rotate_left
    · (intro w hSw; (try dsimp only at hSw); go_simp; try with_reducible rfl)
    try simp only [Act.put, List.getElem_toArray, List.getElem_cons_zero, List.getElem_cons_succ, List.setIfInBounds_toArray, List.set_cons_zero, List.set_cons_succ]
    refine wpAnyK_take (i := 9) (v := ?_) rfl (by kernel_rfl) (fun _ _ _ h => h) (Or.inl ⟨by rfl, ?_⟩) (by assumption) ?_
    rotate_left
    · (intro w hSw; (try dsimp only at hSw); go_simp; try with_reducible rfl)
    try simp only [Act.put, List.getElem_toArray, List.getElem_cons_zero, List.getElem_cons_succ, List.setIfInBounds_toArray, List.set_cons_zero, List.set_cons_succ]
    refine wpAnyK_done (by kernel_rfl) ?_
    simp only [List.drop_succ_cons, List.drop_zero]
    obtain ⟨d0, d1, d2, g0, g1, g2⟩ := O3.out.res
    clear hHeldz
    go_wp2_with fail
    exact bodyPost_ret (v := .tuple #[curV none 0 0 0 0, .int .i64 3]) (by simp [results, Tryz.results35, go_sem, d0, d1, d2]) rfl HP.out

end Go.Proofs.YtkienpbmoilheaaGreat

namespace Go
section
variable {P : Program} {ops : Array Oper} {Q : Exit → Act → World → Prop} {md : Region.Mode} {S : World → Prop} {n g : Nat} {T : Act → World → Prop}

theorem wpAnyK_two {i j : Nat} {oi oj : Oper} {fuel : Nat} {listed : Array Bool} {a : Act} {w : World} (hi : ops[i]? = some oi) (hj : ops[j]? = some oj) (hr : (decide (Region.ready md ops listed = [i, j]) && decide (i < n) && decide (j < n)) = true)
    (h1 : ∀ K' : Act → World → Prop, Shut (∀ a w, S w → (S w → wpAnyK P md ops Q S n g T fuel (listed.setIfInBounds i true) a w) → K' a w) → if Region.wanted oi (yielded ops a.tmps) = true then Oper.wp P oi a w K' Q else K' (a.put oi.dst undef) w)
    (h2 : ∀ K' : Act → World → Prop, Shut (∀ a w, S w → (S w → wpAnyK P md ops Q S n g T fuel (listed.setIfInBounds j true) a w) → K' a w) → if Region.wanted oj (yielded ops a.tmps) = true then Oper.wp P oj a w K' Q else K' (a.put oj.dst undef) w) :
    wpAnyK P md ops Q S n g T (fuel + 1) listed a w := by
  simp only [Bool.and_eq_true, decide_eq_true_eq] at hr
  obtain ⟨⟨hl, hin⟩, hjn⟩ := hr
  refine ⟨fun h0 => (by rw [hl] at h0; cases h0), fun k hk => ?_⟩
  rw [hl] at hk
  rcases List.mem_cons.1 hk with rfl | hk
  · exact ⟨hin, wpOp_step hi (fun K' hK => h1 K' (fun a w hS hW => hK a w ⟨hS, hW hS⟩))⟩
  · obtain rfl : k = j := by simpa using hk
    exact ⟨hjn, wpOp_step hj (fun K' hK => h2 K' (fun a w hS hW => hK a w ⟨hS, hW hS⟩))⟩

end
end Go

namespace Go.Proofs.YtkienpbmoilheaaGreat
open Go.RowKit
set_option linter.unusedSimpArgs false

theorem Good.norm_ex {zs : List Int} {p : Nat} {inc : Int} (g : Good zs p inc) : ∃ zs' p' inc', NormC zs p inc zs' p' inc' := by
  obtain ⟨s, q, c, hn⟩ := normOf_ex g.perAny g.p1
  exact ⟨_, _, _, (g.form (fun _ => rfl) hn).2.2.1⟩

section
variable {w : World} {fc : FuncId} {a1 a2 : Option Addr} {n1 cap1 p1 n2 cap2 p2 : Nat} {i1 i2 : Int} {z1 z2 : List Int} {u v : World}
theorem RowZ.far {w : World} {a : Option Addr} {n cap : Nat} {zs : List Int} (h : RowZ w a n cap zs) : ∀ x, a = some x → 1 ≤ n → x.block < w.heap.size := fun x hx hn => by
  obtain ⟨y, hy, hc⟩ := h.cell 0 (by omega)
  obtain rfl : x = y := Option.some.inj (hx.symm.trans hy)
  have := lt_of_cell hc
  rwa [add_block] at this

end

/-- A closure over a curve, as cells: what it reads is apart from the block b. -/
structure Far (B : Nat) (a : Option Addr) (n : Nat) (b : Nat) : Prop where
  h1 : ¬ B = b
  h2 : ¬ B + 1 = b
  h3 : ∀ x, a = some x → 1 ≤ n → ¬ x.block = b

theorem ClosP.store {w : World} {B : Nat} {a : Option Addr} {n cap : Nat} {zs : List Int} {p : Nat} {inc : Int} (h : ClosP w B a n cap zs p inc) {b : Nat} (hf : Far B a n b) (v : Value) : ClosP (w.setCell ⟨b, 0, none⟩ v) B a n cap zs p inc := by
  have hb : ∀ q o, ¬ q = b → (w.setCell ⟨b, 0, none⟩ v).cell? ⟨q, o, none⟩ = w.cell? ⟨q, o, none⟩ := fun q o hq => World.cell?_of_block (w := w) (a := ⟨q, o, none⟩) (Below.heap_setCell _ _ _ _ hq)
  exact ⟨(hb _ _ hf.h1).trans h.f0, (hb _ _ hf.h1).trans h.f1, (hb _ _ hf.h1).trans h.f2, (hb _ _ hf.h2).trans h.num, h.row.store (fun x hx hn => hf.h3 x hx hn) _ _, h.good⟩

def GivesP (a : Option Addr) (n cap : Nat) (zs : List Int) (p : Nat) (inc : Int) (w : World) (e : Ending) (w' : World) : Prop :=
  ∃ B, e = .returned (.func (.func 76) #[] #[.pointer (some ⟨B + 1, 0, none⟩), .pointer (some ⟨B, 0, none⟩)]) ∧ Below w.heap.size w w' ∧ w.heap.size ≤ B ∧ B + 1 < w'.heap.size ∧ ClosP w' B a n cap zs p inc

set_option maxHeartbeats 800000 in
theorem pvalues_p (a : Option Addr) (n cap : Nat) (zs : List Int) (p : Nat) (inc : Int) (g : Good zs p inc) (w : World) (h : RowZ w a n cap zs) :
    Calls Tryz.prog 54 #[curV a n cap p inc] w (GivesP a n cap zs p inc w) := by
  have hmf : ∀ (fn : Fn) (first cap : Array Value) (w : World), (Instr.makeFunc fn first cap).run Tryz.prog w = .ok (.func fn first cap) w := fun _ _ _ _ => rfl
  have hB : Below w.heap.size w ((w.alloc (.cells #[.slice a n cap, .int .i64 p, .int .i64 inc] 24)).alloc (.cells #[.int .i64 n] 3)) := ((Below.refl _ _).alloc (Nat.le_refl _) _).alloc (by simp) _
  have HC : Hid (ClosP ((w.alloc (.cells #[.slice a n cap, .int .i64 p, .int .i64 inc] 24)).alloc (.cells #[.int .i64 n] 3)) w.heap.size a n cap zs p inc) := Lib.hid (by
    obtain ⟨c0, c1, c2, _, _, _⟩ := (Cur3.new w (.slice a n cap) (.int .i64 p) (.int .i64 inc) 24).alloc (.cells #[.int .i64 n] 3)
    exact ⟨c0, c1, c2, by go_simp, h.under hB, g⟩)
  have HB := Lib.hid hB
  clear h g hB
  go_enter Tryz.func54, Tryz.ntmps54
  go_wp2_with fail
  go_ret
  exact ⟨w.heap.size, rfl, HB.out, Nat.le_refl _, by simp, HC.out⟩

end Go.Proofs.YtkienpbmoilheaaGreat

namespace Go.Proofs.YtkienpbmoilheaaGreat
open Go.RowKit
set_option linter.unusedSimpArgs false

/-- The curve in normal form with the values E is handed back, with no error. -/
def GivesOk (E : Nat → Option Int) (w : World) (e : Ending) (w' : World) : Prop :=
  ∃ (a : Option Addr) (n cap : Nat) (zs : List Int) (p : Nat) (inc : Int), e = .returned (.tuple #[curV a n cap p inc, .int .i64 0]) ∧ Below w.heap.size w w' ∧ RowZ w' a n cap zs ∧ EForm zs p inc E ∧ ∀ x, a = some x → w.heap.size ≤ x.block

theorem GivesE.ok {E : Nat → Option Int} (hc : ECan E) {w w' : World} {e : Ending} (h : GivesE E w e w') : GivesOk E w e w' := by
  obtain ⟨hb, ⟨a, n, cap, zs, p, inc, he, hr, hf, hx⟩ | ⟨_, hno⟩⟩ := h
  · exact ⟨a, n, cap, zs, p, inc, he, hb, hr, hf, hx⟩
  · exact absurd hc hno

theorem GivesE.to {E E' : Nat → Option Int} (h : E = E') {w w' : World} {e : Ending} (k : GivesE E w e w') : GivesE E' w e w' := h ▸ k

theorem GivesE.post {E : Nat → Option Int} {w w1 w2 : World} {b : Nat} (hB : Below w.heap.size w w1) (hb1 : w.heap.size ≤ b) (hb2 : b < w1.heap.size) (h2 : Below w1.heap.size w1 w2) {a : Option Addr} {n cap : Nat} {zs : List Int} {p : Nat} {inc : Int} (hr : RowZ w2 a n cap zs)
    (hx : ∀ x, a = some x → w1.heap.size ≤ x.block) (hf : EForm zs p inc E) :
    GivesE E w (.returned (.tuple #[curV a n cap p inc, .int .i64 0])) (((w2.setCell ⟨b, 0, none⟩ (.slice a n cap)).setCell ⟨b, 1, none⟩ (.int .i64 p)).setCell ⟨b, 2, none⟩ (.int .i64 inc)) := by
  have hne : ∀ x : Addr, a = some x → 1 ≤ n → x.block ≠ b := fun x h _ => by have := hx x h; omega
  exact ⟨below_set3 (hB.trans (h2.mono hB.size)) hb1 _ _ _, .inl ⟨a, n, cap, zs, p, inc, rfl, ((hr.store hne _ _).store hne _ _).store hne _ _, hf, fun x h => by have := hx x h; have := hB.size; omega⟩⟩

theorem GivesE.postNo {E : Nat → Option Int} {w w1 w2 : World} {b : Nat} (hB : Below w.heap.size w w1) (hb1 : w.heap.size ≤ b) (h2 : Below w1.heap.size w1 w2) (hno : ¬ ECan E) :
    GivesE E w (.returned (.tuple #[curV none 0 0 0 0, .int .i64 3])) (((w2.setCell ⟨b, 0, none⟩ (.slice none 0 0)).setCell ⟨b, 1, none⟩ (.int .i64 0)).setCell ⟨b, 2, none⟩ (.int .i64 0)) :=
  ⟨below_set3 (hB.trans (h2.mono hB.size)) hb1 _ _ _, .inr ⟨rfl, hno⟩⟩

/-- The least common multiple of the periods of the normal forms. -/
def LcmN (z1 : List Int) (p1 : Nat) (i1 : Int) (z2 : List Int) (p2 : Nat) (i2 : Int) (L : Nat) : Prop :=
  ∃ y1 q1 j1 y2 q2 j2, NormC z1 p1 i1 y1 q1 j1 ∧ NormC z2 p2 i2 y2 q2 j2 ∧ q1 / Nat.gcd q1 q2 * q2 = L

/-! ## The examples -/

/-! ## Boxes -/

/-- A curve in a box, and its list. -/
structure Bx (u : World) (F : Nat) (a : Option Addr) (n cap p : Nat) (inc : Int) (zs : List Int) : Prop where
  box : Cur3 u F (.slice a n cap) (.int .i64 p) (.int .i64 inc)
  row : RowZ u a n cap zs
theorem Bx.under {u v : World} {F : Nat} {a : Option Addr} {n cap p : Nat} {inc : Int} {zs : List Int} (h : Bx u F a n cap p inc zs) (hb : Below u.heap.size u v) : Bx v F a n cap p inc zs := ⟨h.box.below hb, h.row.under hb⟩
theorem Bx.new {w : World} {a : Option Addr} {n cap p : Nat} {inc : Int} {zs : List Int} (h : RowZ w a n cap zs) : Bx (w.alloc (.cells #[.slice a n cap, .int .i64 p, .int .i64 inc] 24)) w.heap.size a n cap p inc zs := ⟨Cur3.new _ _ _ _ _, h.alloc _⟩
theorem below_box {w : World} (o : Obj) : Below w.heap.size w (w.alloc o) := (Below.refl _ _).alloc (Nat.le_refl _) _

theorem EForm.good {zs : List Int} {p : Nat} {inc : Int} {E : Nat → Option Int} (h : EForm zs p inc E) : Good zs p inc := h.1
theorem EForm.val {zs : List Int} {p : Nat} {inc : Int} {E : Nat → Option Int} (h : EForm zs p inc E) : ∀ t, eC zs p inc t = E t := h.2.1

theorem EForm.at {zs : List Int} {p : Nat} {inc : Int} {E : Nat → Option Int} (h : EForm zs p inc E) {t : Nat} {x : Int} (hx : E t = some x) : atC zs p inc t = x := by
  rw [← enc_eC, h.2.1, hx]; rfl

end Go.Proofs.YtkienpbmoilheaaGreat
