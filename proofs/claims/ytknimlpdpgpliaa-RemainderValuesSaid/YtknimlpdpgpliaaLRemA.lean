/- Package remainder by its meaning: the list of differences, their running extremes, the curve of these. By the verifier's side. -/
import Derived.Test.YtknimlpdpgpliaaLRowF
import Derived.Test.YtknimlpdpgpliaaLPwFPwG
import Derived.Test.YtknimlpdpgpliaaLPwMPwOPwXR56M
import Derived.Test.YtknimlpdpgpliaaLOrdAS
import Derived.Test.YtknimlpdpgpliaaLPwSPwU
import Derived.Test.YtknimlpdpgpliaaLBaseApartPickKeepS
import Derived.BigRegion
namespace Go.Proofs.Ytknimlpdpgpliaa
open Go.RowKit
set_option linter.unusedSimpArgs false
set_option linter.unusedVariables false
def subI (v w : Int) : Int := if w = infV then 0 else if v = infV then infV else max 0 (v - w)
theorem dif_any (v w : Int) (hv : Mid v) (hw : Mid w) (u : World) : Calls Try.prog 130 #[.int .i64 v, .int .i64 w] u fun e u' => e = .returned (.int .i64 (subI v w)) ∧ u' = u := by
  obtain ⟨a1, a2, a3⟩ := hv.bd
  obtain ⟨b1, b2, b3⟩ := hw.bd
  by_cases h1 : w = 4611686018427387904
  · have e : subI v w = 0 := by unfold subI infV; rw [if_pos h1]
    rw [e]; subst h1
    clear hv hw e
    go_enter Try.func130, Try.ntmps130
    go_wp2_with fail
    go_ret
    exact ⟨rfl, rfl⟩
  · have t1 : (w == 4611686018427387904) = false := by simpa using h1
    by_cases h2 : v = 4611686018427387904
    · have e : subI v w = infV := by unfold subI infV; rw [if_neg h1, if_pos h2]
      rw [e]; subst h2
      clear hv hw e h1
      go_enter Try.func130, Try.ntmps130
      go_wp2_with fail
      go_ret
      exact ⟨rfl, rfl⟩
    · have t2 : (v == 4611686018427387904) = false := by simpa using h2
      have e : subI v w = max 0 (v - w) := by unfold subI infV; rw [if_neg h1, if_neg h2]
      rw [e]
      clear hv hw e h1 h2
      by_cases h3 : 0 ≤ v - w
      · have e2 : max 0 (v - w) = v - w := by omega
        have h3' : ¬ v - w < 0 := by omega
        rw [e2]
        go_enter Try.func130, Try.ntmps130
        go_wp2_with fail
        all_goals go_ret
        all_goals exact ⟨ret_int (by omega), rfl⟩
      · have e2 : max 0 (v - w) = 0 := by omega
        rw [e2]
        go_enter Try.func130, Try.ntmps130
        go_wp2_with fail
        all_goals go_ret
        all_goals exact ⟨ret_int (by omega), rfl⟩
theorem enc_dif {zs ys : List Int} {p q : Nat} {inc jnc : Int} (g : Good zs p inc) (k : Good ys q jnc) {t : Nat} (ht : t ≤ 1000) : encF (eDif zs p inc ys q jnc) t = subI (atC zs p inc t) (atC ys q jnc t) := by
  unfold encF eDif subI
  rcases eC_cases k (show t ≤ 1048576 by omega) with ⟨h1, h2⟩ | ⟨y, h1, h2, h3, h4⟩
  · rw [h1, h2, if_pos rfl, osub_r]; rfl
  · rw [h1, h2, if_neg (by unfold infV; omega)]
    rcases eC_cases g (show t ≤ 1048576 by omega) with ⟨k1, k2⟩ | ⟨x, k1, k2, k3, k4⟩
    · rw [k1, k2, if_pos rfl]; rfl
    · rw [k1, k2, if_neg (by unfold infV; omega)]; rfl

/-! ## The curve of a list of extremes -/

theorem cur1_any {w : World} {bx lb m cap : Nat} {F : Nat → Int} (hx : w.cell? ⟨bx, 0, none⟩ = some (.slice (some ⟨lb, 0, none⟩) m cap)) (hr : RowF w lb m F) (hm : m ≤ 1000) : ClosG 132 #[.pointer (some ⟨bx, 0, none⟩)] m F w := by
  rintro ti t v w' rfl ht rfl hb
  obtain ⟨h1, h2⟩ := (hr.under hb).cell t ht
  have h3 := (hb.cell (lt_of_cell hx)).trans hx
  have h4 : (t : Int) < (m : Int) := by omega
  clear hr hb hx
  go_enter Try.func132, Try.ntmps132
  go_wp2_with fail
  go_ret
  exact ⟨rfl, 0, rfl⟩

set_option maxRecDepth 100000 in
set_option maxHeartbeats 3200000 in
theorem dcurve_any (lb m L : Nat) (G : Int) (E : Nat → Option Int) (hL1 : 1 ≤ L) (hL2 : L ≤ 120) (hm : m = 400 + 3 * L) (hG : 0 ≤ G ∧ G ≤ 1125899906842624) (hS : Sett (encF E) L G) (hT : Tame E) (hM : ∀ t, t ≤ 1000 → Mid (encF E t)) (F : Nat → Int) (hF : ∀ t, t < 400 + 2 * L → F t = encF E t) (hFm : ∀ t, t < m → Mid (F t)) (w : World) (h : RowF w lb m F) :
    Calls Try.prog 77 #[curV (some ⟨lb, 0, none⟩) m m L G, .slice (some ⟨lb, 0, none⟩) m m] w (GivesE E w) := by
  have hmf : ∀ (fn : Fn) (first cap : Array Value) (w : World), (Instr.makeFunc fn first cap).run Try.prog w = .ok (.func fn first cap) w := fun _ _ _ _ => rfl
  obtain ⟨W, hW⟩ : ∃ W, ((w.alloc (.cells #[.slice (some ⟨lb, 0, none⟩) m m, .int .i64 L, .int .i64 G] 82)).alloc (.cells #[.slice (some ⟨lb, 0, none⟩) m m] 22)).alloc (.cells #[.slice none 0 0, .int .i64 0, .int .i64 0] 26) = W := ⟨_, rfl⟩
  have hB : Below w.heap.size w W := by rw [← hW]; exact (((Below.refl _ _).alloc (Nat.le_refl _) _).alloc (by simp) _).alloc (by simp; omega) _
  have HB := Lib.hid hB
  have KD := Lib.hid (show Cur3 W w.heap.size (.slice (some ⟨lb, 0, none⟩) m m) (.int .i64 L) (.int .i64 G) by rw [← hW]; exact ((Cur3.new w _ _ _ _).alloc _).alloc _)
  have KX : W.cell? ⟨w.heap.size + 1, 0, none⟩ = some (.slice (some ⟨lb, 0, none⟩) m m) := by rw [← hW]; go_simp
  have KR := Lib.hid (show Cur3 W (w.heap.size + 2) (.slice none 0 0) (.int .i64 0) (.int .i64 0) by
    rw [← hW]
    have := Cur3.new2 (w.alloc (.cells #[.slice (some ⟨lb, 0, none⟩) m m, .int .i64 L, .int .i64 G] 82)) (.slice none 0 0) (.int .i64 0) (.int .i64 0) 26 (.cells #[.slice (some ⟨lb, 0, none⟩) m m] 22)
    simpa using this)
  have HX := Lib.hid KX
  have HRW := Lib.hid (h.under hB)
  have HSS := Lib.hid (And.intro hS (And.intro hT hM))
  have HFF := Lib.hid hF
  have HWS := Lib.hid (show W.heap.size = w.heap.size + 3 by rw [← hW]; simp)
  obtain ⟨N, hN⟩ : ∃ N, 400 + L = N := ⟨_, rfl⟩
  have hm4 : (N : Int) < (m : Int) := by omega
  have wN : IntKind.i64.wrap (400 + (L : Int)) = (N : Int) := by rw [show (400 : Int) + (L : Int) = (N : Int) by omega]; exact IntWalk.i64_in _ ⟨by omega, by omega⟩
  have wN2 : IntKind.i64.wrap (N : Int) = (N : Int) := IntWalk.i64_in _ ⟨by omega, by omega⟩
  have hNI : (400 : Int) + (L : Int) = (N : Int) := by omega
  have hm5 : (400 : Int) < (m : Int) := by omega
  obtain ⟨x1, e1⟩ : ∃ x, F N = x := ⟨_, rfl⟩
  obtain ⟨x2, e2⟩ : ∃ x, F 400 = x := ⟨_, rfl⟩
  have c1 := (HRW.out.cell N (by omega)).1
  have c2 := (HRW.out.cell 400 (by omega)).1
  have b1 := (hFm N (by omega)).bd
  have b2 := (hFm 400 (by omega)).bd
  rw [e1] at c1 b1
  rw [e2] at c2 b2
  have E1 := Lib.hid (show encF E (400 + L) = x1 by rw [hN, ← hF _ (by omega)]; exact e1)
  have E2 := Lib.hid (show encF E 400 = x2 by rw [← hF _ (by omega)]; exact e2)
  obtain ⟨b11, b12, _⟩ := b1
  obtain ⟨b21, b22, _⟩ := b2
  obtain ⟨hG0, hG1⟩ := hG
  have HMM := Lib.hid hm
  have wx : IntKind.i64.wrap (x1 - x2) = x1 - x2 := IntWalk.i64_in _ ⟨by omega, by omega⟩
  have hW1 := hW
  obtain ⟨d0, d1, d2, d3, d4, d5⟩ := KD.out
  clear hB h hS hT hM hF hFm hW e1 e2 hm hN
  go_enter Try.func77, Try.ntmps77
  go_upto_region 1 with fail
  try rw [hW1]
  clear hW1
  have O1 := Lib.hid (And.intro (KD.out.drewN 0) (And.intro KX (And.intro c1 c2)))
  clear d0 d1 d2 d3 d4 d5 KX c1 c2
  by_cases hne : x1 - x2 = G
  · have hqb : (x1 - x2 == G) = true := by simpa using hne
    have HNE := Lib.hid (show Per (encF E) 400 L G from HSS.out.1.1 (by rw [E1.out, E2.out]; exact hne))
    clear hne
    refine wp_region_keeps (fun u => ((u.cell? ⟨w.heap.size, 1, none⟩ = some (.int .i64 L) ∧ u.cell? ⟨w.heap.size, 2, none⟩ = some (.int .i64 G)) ∧ u.cell? ⟨w.heap.size + 1, 0, none⟩ = some (.slice (some ⟨lb, 0, none⟩) m m) ∧ u.cell? ⟨lb, N, none⟩ = some (.int .i64 x1) ∧ u.cell? ⟨lb, 400, none⟩ = some (.int .i64 x2))) 12 1 (by kernel_rfl) (by kernel_rfl) ⟨⟨O1.out.1.c1, O1.out.1.c2⟩, O1.out.2.1, O1.out.2.2.1, O1.out.2.2.2⟩ (fun hHeld0 => ?_)
    refine wpAnyK_take (i := 0) (v := ?_) rfl (by kernel_rfl) (fun _ _ _ h => h) (Or.inl ⟨by rfl, ?_⟩) (by assumption) ?_
    rotate_left
    · (intro w hSw; (try dsimp only at hSw); go_simp; try with_reducible rfl)
    try simp only [Act.put, List.getElem_toArray, List.getElem_cons_zero, List.getElem_cons_succ, List.setIfInBounds_toArray, List.set_cons_zero, List.set_cons_succ]
    refine wpAnyK_take (i := 1) (v := ?_) rfl (by kernel_rfl) (fun _ _ _ h => h) (Or.inl ⟨by rfl, ?_⟩) (by assumption) ?_
    rotate_left
    · (intro w hSw; (try dsimp only at hSw); go_simp; try with_reducible rfl)
    try simp only [Act.put, List.getElem_toArray, List.getElem_cons_zero, List.getElem_cons_succ, List.setIfInBounds_toArray, List.set_cons_zero, List.set_cons_succ]
    refine wpAnyK_take (i := 2) (v := ?_) rfl (by kernel_rfl) (fun _ _ _ h => h) (Or.inl ⟨by rfl, ?_⟩) (by assumption) ?_
    rotate_left
    · (intro w hSw; (try dsimp only at hSw); go_simp; try with_reducible rfl)
    try simp only [Act.put, List.getElem_toArray, List.getElem_cons_zero, List.getElem_cons_succ, List.setIfInBounds_toArray, List.set_cons_zero, List.set_cons_succ]
    refine wpAnyK_take (i := 3) (v := ?_) rfl (by kernel_rfl) (fun _ _ _ h => h) (Or.inl ⟨by rfl, ?_⟩) (by assumption) ?_
    rotate_left
    · (intro w hSw; (try dsimp only at hSw); go_simp; try with_reducible rfl)
    try simp only [Act.put, List.getElem_toArray, List.getElem_cons_zero, List.getElem_cons_succ, List.setIfInBounds_toArray, List.set_cons_zero, List.set_cons_succ]
    refine wpAnyK_take (i := 4) (v := ?_) rfl (by kernel_rfl) (fun _ _ _ h => h) (Or.inl ⟨by rfl, ?_⟩) (by assumption) ?_
    rotate_left
    · (intro w hSw; (try dsimp only at hSw); go_simp; try with_reducible rfl)
    try simp only [Act.put, List.getElem_toArray, List.getElem_cons_zero, List.getElem_cons_succ, List.setIfInBounds_toArray, List.set_cons_zero, List.set_cons_succ]
    refine wpAnyK_take (i := 5) (v := ?_) rfl (by kernel_rfl) (fun _ _ _ h => h) (Or.inl ⟨by rfl, ?_⟩) (by assumption) ?_
    rotate_left
    · (intro w hSw; (try dsimp only at hSw); go_simp; try with_reducible rfl)
    try simp only [Act.put, List.getElem_toArray, List.getElem_cons_zero, List.getElem_cons_succ, List.setIfInBounds_toArray, List.set_cons_zero, List.set_cons_succ]
    refine wpAnyK_take (i := 6) (v := ?_) rfl (by kernel_rfl) (fun _ _ _ h => h) (Or.inl ⟨by rfl, ?_⟩) (by assumption) ?_
    rotate_left
    · (intro w hSw; (try dsimp only at hSw); go_simp; try with_reducible rfl)
    try simp only [Act.put, List.getElem_toArray, List.getElem_cons_zero, List.getElem_cons_succ, List.setIfInBounds_toArray, List.set_cons_zero, List.set_cons_succ]
    refine wpAnyK_take (i := 7) (v := ?_) rfl (by kernel_rfl) (fun _ _ _ h => h) (Or.inl ⟨by rfl, ?_⟩) (by assumption) ?_
    rotate_left
    · (intro w hSw; (try dsimp only at hSw); go_simp; try with_reducible rfl)
    try simp only [Act.put, List.getElem_toArray, List.getElem_cons_zero, List.getElem_cons_succ, List.setIfInBounds_toArray, List.set_cons_zero, List.set_cons_succ]
    refine wpAnyK_take (i := 8) (v := ?_) rfl (by kernel_rfl) (fun _ _ _ h => h) (Or.inl ⟨by rfl, ?_⟩) (by assumption) ?_
    rotate_left
    · (intro w hSw; (try dsimp only at hSw); go_simp; try with_reducible rfl)
    try simp only [Act.put, List.getElem_toArray, List.getElem_cons_zero, List.getElem_cons_succ, List.setIfInBounds_toArray, List.set_cons_zero, List.set_cons_succ]
    refine wpAnyK_take (i := 9) (v := ?_) rfl (by kernel_rfl) (fun _ _ _ h => h) (Or.inl ⟨by rfl, ?_⟩) (by assumption) ?_
    rotate_left
    · (intro w hSw; (try dsimp only at hSw); go_simp; try with_reducible rfl)
    try simp only [Act.put, List.getElem_toArray, List.getElem_cons_zero, List.getElem_cons_succ, List.setIfInBounds_toArray, List.set_cons_zero, List.set_cons_succ]
    refine wpAnyK_take (i := 10) (v := ?_) rfl (by kernel_rfl) (fun _ _ _ h => h) (Or.inl ⟨by rfl, ?_⟩) (by assumption) ?_
    rotate_left
    · (intro w hSw; (try dsimp only at hSw); go_simp; try with_reducible rfl)
    try simp only [Act.put, List.getElem_toArray, List.getElem_cons_zero, List.getElem_cons_succ, List.setIfInBounds_toArray, List.set_cons_zero, List.set_cons_succ]
    refine wpAnyK_take (i := 11) (v := ?_) rfl (by kernel_rfl) (fun _ _ _ h => h) (Or.inl ⟨by rfl, ?_⟩) (by assumption) ?_
    rotate_left
    · (intro w hSw; (try dsimp only at hSw); go_simp; try with_reducible rfl)
    try simp only [Act.put, List.getElem_toArray, List.getElem_cons_zero, List.getElem_cons_succ, List.setIfInBounds_toArray, List.set_cons_zero, List.set_cons_succ]
    refine wpAnyK_done (by kernel_rfl) ?_
    simp only [List.drop_succ_cons, List.drop_zero]
    clear hHeld0
    obtain ⟨d0, d1, d2, d3, d4, d5⟩ := KD.out
    go_wp2_with fail
    clear d0 d1 d2 d3 d4 d5
    have EG := Lib.hid (show ∀ (args : Array Value) (w : World), (callFunc 132 args).run Try.prog w = .ok (.enter 132 args) w from enters_of Try.func132 (by kernel_rfl) rfl)
    with_reducible refine (pcurve_i 132 #[.pointer (some ⟨w.heap.size + 1, 0, none⟩)] (encF E) 400 400 rfl L G hL1 hL2 (by omega) (fun t ht => by have := (HSS.out.2.2 t (by omega)).bd; omega) HNE.out _ EG.out (((cur1_any (F := F) ((Below.refl _ _).drew.cell (lt_of_cell HX.out) |>.trans HX.out) (HRW.out.under (Below.refl _ _).drew) (by have := HMM.out; omega)).less (by have := HMM.out; omega)).congr HFF.out)).mono ?_
    rintro e u5 ⟨hb5, ⟨a5, n5, cap5, zs5, p5, inc5, rfl, hr5, hf5, hx5⟩ | ⟨rfl, hno5⟩⟩
    · have HP := Lib.hid (GivesForm.toE HSS.out.2.1 (form_post (b := w.heap.size + 2) (HB.out.drew) (by omega) (by have := HWS.out; show _ < W.heap.size; omega) hb5 hr5 hx5 hf5))
      obtain ⟨d0, d1, d2, d3, d4, d5⟩ := (KR.out.drew).below hb5
      clear hb5 hr5 hf5 hx5
      go_wp2_with fail
      exact bodyPost_ret (v := .tuple #[curV a5 n5 cap5 p5 inc5, .int .i64 0]) (by simp [results, Try.results77, go_sem, d0, d1, d2]) rfl HP.out
    · have HP := Lib.hid (GivesForm.toE HSS.out.2.1 (none_post (b := w.heap.size + 2) (HB.out.drew) (by omega) hb5 hno5))
      obtain ⟨d0, d1, d2, d3, d4, d5⟩ := (KR.out.drew).below hb5
      clear hb5 hno5
      go_wp2_with fail
      exact bodyPost_ret (v := .tuple #[curV none 0 0 0 0, .int .i64 3]) (by simp [results, Try.results77, go_sem, d0, d1, d2]) rfl HP.out
  · have hqb : (x1 - x2 == G) = false := by simpa using hne
    have HNE := Lib.hid (show ¬ ECan E from fun hc => HSS.out.1.no (by rw [E1.out, E2.out]; exact hne) hc.can)
    clear hne
    refine wp_region_keeps (fun u => ((u.cell? ⟨w.heap.size, 1, none⟩ = some (.int .i64 L) ∧ u.cell? ⟨w.heap.size, 2, none⟩ = some (.int .i64 G)) ∧ u.cell? ⟨w.heap.size + 1, 0, none⟩ = some (.slice (some ⟨lb, 0, none⟩) m m) ∧ u.cell? ⟨lb, N, none⟩ = some (.int .i64 x1) ∧ u.cell? ⟨lb, 400, none⟩ = some (.int .i64 x2))) 12 1 (by kernel_rfl) (by kernel_rfl) ⟨⟨O1.out.1.c1, O1.out.1.c2⟩, O1.out.2.1, O1.out.2.2.1, O1.out.2.2.2⟩ (fun hHeld0 => ?_)
    refine wpAnyK_take (i := 0) (v := ?_) rfl (by kernel_rfl) (fun _ _ _ h => h) (Or.inl ⟨by rfl, ?_⟩) (by assumption) ?_
    rotate_left
    · (intro w hSw; (try dsimp only at hSw); go_simp; try with_reducible rfl)
    try simp only [Act.put, List.getElem_toArray, List.getElem_cons_zero, List.getElem_cons_succ, List.setIfInBounds_toArray, List.set_cons_zero, List.set_cons_succ]
    refine wpAnyK_take (i := 1) (v := ?_) rfl (by kernel_rfl) (fun _ _ _ h => h) (Or.inl ⟨by rfl, ?_⟩) (by assumption) ?_
    rotate_left
    · (intro w hSw; (try dsimp only at hSw); go_simp; try with_reducible rfl)
    try simp only [Act.put, List.getElem_toArray, List.getElem_cons_zero, List.getElem_cons_succ, List.setIfInBounds_toArray, List.set_cons_zero, List.set_cons_succ]
    refine wpAnyK_take (i := 2) (v := ?_) rfl (by kernel_rfl) (fun _ _ _ h => h) (Or.inl ⟨by rfl, ?_⟩) (by assumption) ?_
    rotate_left
    · (intro w hSw; (try dsimp only at hSw); go_simp; try with_reducible rfl)
    try simp only [Act.put, List.getElem_toArray, List.getElem_cons_zero, List.getElem_cons_succ, List.setIfInBounds_toArray, List.set_cons_zero, List.set_cons_succ]
    refine wpAnyK_take (i := 3) (v := ?_) rfl (by kernel_rfl) (fun _ _ _ h => h) (Or.inl ⟨by rfl, ?_⟩) (by assumption) ?_
    rotate_left
    · (intro w hSw; (try dsimp only at hSw); go_simp; try with_reducible rfl)
    try simp only [Act.put, List.getElem_toArray, List.getElem_cons_zero, List.getElem_cons_succ, List.setIfInBounds_toArray, List.set_cons_zero, List.set_cons_succ]
    refine wpAnyK_take (i := 4) (v := ?_) rfl (by kernel_rfl) (fun _ _ _ h => h) (Or.inl ⟨by rfl, ?_⟩) (by assumption) ?_
    rotate_left
    · (intro w hSw; (try dsimp only at hSw); go_simp; try with_reducible rfl)
    try simp only [Act.put, List.getElem_toArray, List.getElem_cons_zero, List.getElem_cons_succ, List.setIfInBounds_toArray, List.set_cons_zero, List.set_cons_succ]
    refine wpAnyK_take (i := 5) (v := ?_) rfl (by kernel_rfl) (fun _ _ _ h => h) (Or.inl ⟨by rfl, ?_⟩) (by assumption) ?_
    rotate_left
    · (intro w hSw; (try dsimp only at hSw); go_simp; try with_reducible rfl)
    try simp only [Act.put, List.getElem_toArray, List.getElem_cons_zero, List.getElem_cons_succ, List.setIfInBounds_toArray, List.set_cons_zero, List.set_cons_succ]
    refine wpAnyK_take (i := 6) (v := ?_) rfl (by kernel_rfl) (fun _ _ _ h => h) (Or.inl ⟨by rfl, ?_⟩) (by assumption) ?_
    rotate_left
    · (intro w hSw; (try dsimp only at hSw); go_simp; try with_reducible rfl)
    try simp only [Act.put, List.getElem_toArray, List.getElem_cons_zero, List.getElem_cons_succ, List.setIfInBounds_toArray, List.set_cons_zero, List.set_cons_succ]
    refine wpAnyK_take (i := 7) (v := ?_) rfl (by kernel_rfl) (fun _ _ _ h => h) (Or.inl ⟨by rfl, ?_⟩) (by assumption) ?_
    rotate_left
    · (intro w hSw; (try dsimp only at hSw); go_simp; try with_reducible rfl)
    try simp only [Act.put, List.getElem_toArray, List.getElem_cons_zero, List.getElem_cons_succ, List.setIfInBounds_toArray, List.set_cons_zero, List.set_cons_succ]
    refine wpAnyK_take (i := 8) (v := ?_) rfl (by kernel_rfl) (fun _ _ _ h => h) (Or.inl ⟨by rfl, ?_⟩) (by assumption) ?_
    rotate_left
    · (intro w hSw; (try dsimp only at hSw); go_simp; try with_reducible rfl)
    try simp only [Act.put, List.getElem_toArray, List.getElem_cons_zero, List.getElem_cons_succ, List.setIfInBounds_toArray, List.set_cons_zero, List.set_cons_succ]
    refine wpAnyK_take (i := 9) (v := ?_) rfl (by kernel_rfl) (fun _ _ _ h => h) (Or.inl ⟨by rfl, ?_⟩) (by assumption) ?_
    rotate_left
    · (intro w hSw; (try dsimp only at hSw); go_simp; try with_reducible rfl)
    try simp only [Act.put, List.getElem_toArray, List.getElem_cons_zero, List.getElem_cons_succ, List.setIfInBounds_toArray, List.set_cons_zero, List.set_cons_succ]
    refine wpAnyK_take (i := 10) (v := ?_) rfl (by kernel_rfl) (fun _ _ _ h => h) (Or.inl ⟨by rfl, ?_⟩) (by assumption) ?_
    rotate_left
    · (intro w hSw; (try dsimp only at hSw); go_simp; try with_reducible rfl)
    try simp only [Act.put, List.getElem_toArray, List.getElem_cons_zero, List.getElem_cons_succ, List.setIfInBounds_toArray, List.set_cons_zero, List.set_cons_succ]
    refine wpAnyK_take (i := 11) (v := ?_) rfl (by kernel_rfl) (fun _ _ _ h => h) (Or.inl ⟨by rfl, ?_⟩) (by assumption) ?_
    rotate_left
    · (intro w hSw; (try dsimp only at hSw); go_simp; try with_reducible rfl)
    try simp only [Act.put, List.getElem_toArray, List.getElem_cons_zero, List.getElem_cons_succ, List.setIfInBounds_toArray, List.set_cons_zero, List.set_cons_succ]
    refine wpAnyK_done (by kernel_rfl) ?_
    simp only [List.drop_succ_cons, List.drop_zero]
    clear hHeld0
    have HP := Lib.hid (GivesE.postNo (b := w.heap.size + 2) HB.out (by omega) (Below.refl W.heap.size W) HNE.out).drewn
    obtain ⟨d0, d1, d2, d3, d4, d5⟩ := KR.out
    go_wp2_with fail
    exact bodyPost_ret (v := .tuple #[curV none 0 0 0 0, .int .i64 3]) (by simp [results, Try.results77, go_sem, d0, d1, d2]) rfl HP.out

/-! ## The list of differences -/

structure Sb (w : World) (a1 : Option Addr) (n1 cap1 p1 : Nat) (i1 : Int) (z1 : List Int) (a2 : Option Addr) (n2 cap2 p2 : Nat) (i2 : Int) (z2 : List Int) (u : World) : Prop where
  c1 : Cur3 u w.heap.size (.slice a1 n1 cap1) (.int .i64 p1) (.int .i64 i1)
  c2 : Cur3 u (w.heap.size + 1) (.slice a2 n2 cap2) (.int .i64 p2) (.int .i64 i2)
  res : Cur3 u (w.heap.size + 2) (.slice none 0 0) (.int .i64 0) (.int .i64 0)
  r1 : RowZ u a1 n1 cap1 z1
  r2 : RowZ u a2 n2 cap2 z2
  f1 : ∀ x, a1 = some x → 1 ≤ n1 → x.block < w.heap.size ∨ w.heap.size + 2 < x.block
  f2 : ∀ x, a2 = some x → 1 ≤ n2 → x.block < w.heap.size ∨ w.heap.size + 2 < x.block
  below : Below w.heap.size w u
section
variable {w : World} {a1 a2 : Option Addr} {n1 cap1 p1 n2 cap2 p2 : Nat} {i1 i2 : Int} {z1 z2 : List Int} {u v : World}
theorem Sb.call (h : Sb w a1 n1 cap1 p1 i1 z1 a2 n2 cap2 p2 i2 z2 u) (hb : Below u.heap.size u v) : Sb w a1 n1 cap1 p1 i1 z1 a2 n2 cap2 p2 i2 z2 v :=
  ⟨h.c1.below hb, h.c2.below hb, h.res.below hb, h.r1.under hb, h.r2.under hb, h.f1, h.f2, h.below.trans (hb.mono h.below.size)⟩
theorem Sb.put1 (h : Sb w a1 n1 cap1 p1 i1 z1 a2 n2 cap2 p2 i2 z2 u) {a : Option Addr} {n cap p : Nat} {i : Int} {z : List Int} (hr : RowZ u a n cap z) (hx : ∀ x, a = some x → w.heap.size + 3 ≤ x.block) :
    Sb w a n cap p i z a2 n2 cap2 p2 i2 z2 (((u.setCell ⟨w.heap.size, 0, none⟩ (.slice a n cap)).setCell ⟨w.heap.size, 1, none⟩ (.int .i64 p)).setCell ⟨w.heap.size, 2, none⟩ (.int .i64 i)) := by
  have k1 : ∀ x, a = some x → 1 ≤ n → x.block ≠ w.heap.size := fun x h1 _ => by have := hx x h1; omega
  have k2 : ∀ x, a2 = some x → 1 ≤ n2 → x.block ≠ w.heap.size := fun x h1 h2 => by have := h.f2 x h1 h2; omega
  exact ⟨h.c1.set _ _ _, ((h.c2.other (by omega) _ _).other (by omega) _ _).other (by omega) _ _, ((h.res.other (by omega) _ _).other (by omega) _ _).other (by omega) _ _,
    ((hr.store k1 _ _).store k1 _ _).store k1 _ _, ((h.r2.store k2 _ _).store k2 _ _).store k2 _ _, fun x h1 h2 => .inr (by have := hx x h1; omega), h.f2, below_set3 h.below (Nat.le_refl _) _ _ _⟩
theorem Sb.put2 (h : Sb w a1 n1 cap1 p1 i1 z1 a2 n2 cap2 p2 i2 z2 u) {a : Option Addr} {n cap p : Nat} {i : Int} {z : List Int} (hr : RowZ u a n cap z) (hx : ∀ x, a = some x → w.heap.size + 3 ≤ x.block) :
    Sb w a1 n1 cap1 p1 i1 z1 a n cap p i z (((u.setCell ⟨w.heap.size + 1, 0, none⟩ (.slice a n cap)).setCell ⟨w.heap.size + 1, 1, none⟩ (.int .i64 p)).setCell ⟨w.heap.size + 1, 2, none⟩ (.int .i64 i)) := by
  have k1 : ∀ x, a = some x → 1 ≤ n → x.block ≠ w.heap.size + 1 := fun x h1 _ => by have := hx x h1; omega
  have k2 : ∀ x, a1 = some x → 1 ≤ n1 → x.block ≠ w.heap.size + 1 := fun x h1 h2 => by have := h.f1 x h1 h2; omega
  exact ⟨((h.c1.other (by omega) _ _).other (by omega) _ _).other (by omega) _ _, h.c2.set _ _ _, ((h.res.other (by omega) _ _).other (by omega) _ _).other (by omega) _ _,
    ((h.r1.store k2 _ _).store k2 _ _).store k2 _ _, ((hr.store k1 _ _).store k1 _ _).store k1 _ _, h.f1, fun x h1 h2 => .inr (by have := hx x h1; omega), below_set3 h.below (by omega) _ _ _⟩
theorem Sb.other (h : Sb w a1 n1 cap1 p1 i1 z1 a2 n2 cap2 p2 i2 z2 u) {b : Nat} (hb : w.heap.size + 2 < b) (hx1 : ∀ x, a1 = some x → 1 ≤ n1 → x.block < b) (hx2 : ∀ x, a2 = some x → 1 ≤ n2 → x.block < b) (i : Nat) (v : Value) : Sb w a1 n1 cap1 p1 i1 z1 a2 n2 cap2 p2 i2 z2 (u.setCell ⟨b, i, none⟩ v) :=
  ⟨h.c1.other (by omega) _ _, h.c2.other (by omega) _ _, h.res.other (by omega) _ _, h.r1.store (fun x h1 h2 => by have := hx1 x h1 h2; omega) _ _, h.r2.store (fun x h1 h2 => by have := hx2 x h1 h2; omega) _ _, h.f1, h.f2, h.below.setCell (p := ⟨b, i, none⟩) (by show w.heap.size ≤ b; omega) v⟩
end
theorem sb_start {w : World} {a1 a2 : Option Addr} {n1 cap1 p1 n2 cap2 p2 : Nat} {i1 i2 : Int} {z1 z2 : List Int} (h1 : RowZ w a1 n1 cap1 z1) (h2 : RowZ w a2 n2 cap2 z2) {W : World} {ty : TypeId}
    (hW : ((w.alloc (.cells #[.slice a1 n1 cap1, .int .i64 p1, .int .i64 i1] 26)).alloc (.cells #[.slice a2 n2 cap2, .int .i64 p2, .int .i64 i2] 26)).alloc (.cells #[.slice none 0 0, .int .i64 0, .int .i64 0] ty) = W) :
    Sb w a1 n1 cap1 p1 i1 z1 a2 n2 cap2 p2 i2 z2 W ∧ W.heap.size = w.heap.size + 3 := by
  subst hW
  have hB : Below w.heap.size w (((w.alloc (.cells #[.slice a1 n1 cap1, .int .i64 p1, .int .i64 i1] 26)).alloc (.cells #[.slice a2 n2 cap2, .int .i64 p2, .int .i64 i2] 26)).alloc (.cells #[.slice none 0 0, .int .i64 0, .int .i64 0] ty)) := (((Below.refl _ _).alloc (Nat.le_refl _) _).alloc (by simp) _).alloc (by simp; omega) _
  refine ⟨⟨((Cur3.new w _ _ _ _).alloc _).alloc _, (Cur3.new2 w _ _ _ _ _).alloc _, ?_, h1.under hB, h2.under hB, fun x k1 k2 => .inl (h1.far x k1 k2), fun x k1 k2 => .inl (h2.far x k1 k2), hB⟩, by simp⟩
  have := Cur3.new2 (w.alloc (.cells #[.slice a1 n1 cap1, .int .i64 p1, .int .i64 i1] 26)) (.slice none 0 0) (.int .i64 0) (.int .i64 0) ty (.cells #[.slice a2 n2 cap2, .int .i64 p2, .int .i64 i2] 26)
  simpa using this

/-- While the list is filled. -/
structure SL (w : World) (D : Nat → Option Int) (lb m D0 L : Nat) (G : Int) (B1 : Nat) (a1 : Option Addr) (n1 cap1 p1 : Nat) (i1 : Int) (z1 : List Int) (B2 : Nat) (a2 : Option Addr) (n2 cap2 p2 : Nat) (i2 : Int) (z2 : List Int) (k : Nat) (u : World) : Prop where
  row : RowF u lb m (fun i => if i < k then encF D i else 0)
  c1 : ClosP u B1 a1 n1 cap1 z1 p1 i1
  c2 : ClosP u B2 a2 n2 cap2 z2 p2 i2
  kd : Cur3 u D0 (.slice (some ⟨lb, 0, none⟩) m m) (.int .i64 L) (.int .i64 G)
  res : Cur3 u (w.heap.size + 2) (.slice none 0 0) (.int .i64 0) (.int .i64 0)
  far1 : Far B1 a1 n1 lb
  far2 : Far B2 a2 n2 lb
  lb1 : w.heap.size + 2 < D0 ∧ D0 < lb
  below : Below w.heap.size w u
theorem SL.call {w : World} {D : Nat → Option Int} {lb m D0 L : Nat} {G : Int} {B1 : Nat} {a1 : Option Addr} {n1 cap1 p1 : Nat} {i1 : Int} {z1 : List Int} {B2 : Nat} {a2 : Option Addr} {n2 cap2 p2 : Nat} {i2 : Int} {z2 : List Int} {k : Nat} {u v : World} (h : SL w D lb m D0 L G B1 a1 n1 cap1 p1 i1 z1 B2 a2 n2 cap2 p2 i2 z2 k u) (hb : Below u.heap.size u v) : SL w D lb m D0 L G B1 a1 n1 cap1 p1 i1 z1 B2 a2 n2 cap2 p2 i2 z2 k v :=
  ⟨h.row.under hb, h.c1.under hb, h.c2.under hb, h.kd.below hb, h.res.below hb, h.far1, h.far2, h.lb1, h.below.trans (hb.mono h.below.size)⟩
theorem SL.step {w : World} {D : Nat → Option Int} {lb m D0 L : Nat} {G : Int} {B1 : Nat} {a1 : Option Addr} {n1 cap1 p1 : Nat} {i1 : Int} {z1 : List Int} {B2 : Nat} {a2 : Option Addr} {n2 cap2 p2 : Nat} {i2 : Int} {z2 : List Int} {k : Nat} {u : World} (h : SL w D lb m D0 L G B1 a1 n1 cap1 p1 i1 z1 B2 a2 n2 cap2 p2 i2 z2 k u) (hk : k < m) {x : Int} (hx : encF D k = x) : SL w D lb m D0 L G B1 a1 n1 cap1 p1 i1 z1 B2 a2 n2 cap2 p2 i2 z2 (k + 1) (u.setCell ⟨lb, k, none⟩ (.int .i64 x)) := by
  have hl := h.lb1
  refine ⟨(h.row.set hk x).congr fun i hi => ?_, h.c1.other h.far1 _ _, h.c2.other h.far2 _ _, h.kd.other (by omega) _ _, h.res.other (by omega) _ _, h.far1, h.far2, h.lb1, h.below.setCell (p := ⟨lb, k, none⟩) (by show w.heap.size ≤ lb; omega) _⟩
  by_cases e : i = k
  · subst e; rw [if_pos rfl, if_pos (Nat.lt_succ_self _)]; exact hx.symm
  · rw [if_neg e]
    by_cases e2 : i < k
    · rw [if_pos e2, if_pos (by omega)]
    · rw [if_neg e2, if_neg (by omega)]

/-- The differences, and the growth of the extremes, in the long run. -/
def GivesSub (D : Nat → Option Int) (L : Nat) (G : Int) (w : World) (e : Ending) (w' : World) : Prop :=
  ∃ lb m : Nat, e = .returned (.tuple #[curV (some ⟨lb, 0, none⟩) m m L G, .int .i64 0]) ∧ Below w.heap.size w w' ∧ w.heap.size ≤ lb ∧ m = 400 + 3 * L ∧ RowF w' lb m (encF D)

set_option maxRecDepth 100000 in
set_option maxHeartbeats 6400000 in
theorem msub_ok (a1 : Option Addr) (n1 cap1 : Nat) (z1 : List Int) (p1 : Nat) (i1 : Int) (g1 : Good z1 p1 i1) (a2 : Option Addr) (n2 cap2 : Nat) (z2 : List Int) (p2 : Nat) (i2 : Int) (g2 : Good z2 p2 i2)
    {y1 y2 : List Int} {q1 q2 : Nat} {j1 j2 : Int} (hn1 : NormC z1 p1 i1 y1 q1 j1) (hn2 : NormC z2 p2 i2 y2 q2 j2) (L : Nat) (hL : q1 / Nat.gcd q1 q2 * q2 = L) (hL2 : L ≤ 120) (w : World) (h1 : RowZ w a1 n1 cap1 z1) (h2 : RowZ w a2 n2 cap2 z2) :
    Calls Try.prog 76 #[curV a1 n1 cap1 p1 i1, curV a2 n2 cap2 p2 i2] w (GivesSub (eDif y1 q1 j1 y2 q2 j2) L (restG y1 q1 j1 y2 q2 j2 L) w) := by
  obtain ⟨W, hW⟩ : ∃ W, ((w.alloc (.cells #[.slice a1 n1 cap1, .int .i64 p1, .int .i64 i1] 26)).alloc (.cells #[.slice a2 n2 cap2, .int .i64 p2, .int .i64 i2] 26)).alloc (.cells #[.slice none 0 0, .int .i64 0, .int .i64 0] 82) = W := ⟨_, rfl⟩
  obtain ⟨t0, hsz⟩ := sb_start (p1 := p1) (i1 := i1) (p2 := p2) (i2 := i2) h1 h2 hW
  have T0 := Lib.hid t0
  have HSZ := Lib.hid hsz
  have HW := Lib.hid hW
  have V1 := Lib.hid ((okC_iff z1 p1 i1).2 g1)
  have V2 := Lib.hid ((okC_iff z2 p2 i2).2 g2)
  have G1 := Lib.hid g1
  have G2 := Lib.hid g2
  have HN := Lib.hid (And.intro hn1 hn2)
  have HL := Lib.hid hL
  obtain ⟨b1, b2, b3, b4, b5, b6⟩ := norm_p3 g1 hn1
  obtain ⟨d1, d2, d3, d4, d5, d6⟩ := norm_p3 g2 hn2
  have e1 : In64 (p1 : Int) := ⟨by omega, by have := g1.p2; omega⟩
  have e2 : In64 (p2 : Int) := ⟨by omega, by have := g2.p2; omega⟩
  have e3 : In64 i1 := ⟨by have := g1.i0; omega, by have := g1.i1; omega⟩
  have e4 : In64 i2 := ⟨by have := g2.i0; omega, by have := g2.i1; omega⟩
  have HI := Lib.hid (And.intro (And.intro e1 e3) (And.intro e2 e4))
  have hL1 : 1 ≤ L := (lcm_of b1 d1 hL).one
  clear t0 hsz hW g1 g2 hn1 hn2 hL h1 h2 e1 e2 e3 e4
  go_enter Try.func76, Try.ntmps76
  go_wp2_with fail
  try rw [HW.out]
  refine (valid_any a1 n1 cap1 z1 p1 i1 HI.out.1.1 HI.out.1.2 true V1.out _ T0.out.r1).mono ?_
  rintro e w1 ⟨rfl, hb⟩
  have T1 := Lib.hid (T0.out.call hb)
  obtain ⟨c0, c1, c2, f0, f1, f2⟩ := T1.out.c2
  have HS1 := Lib.hid (Nat.le_trans (Nat.le_of_eq HSZ.out.symm) hb.size)
  clear hb
  go_wp2_with fail
  refine (valid_any a2 n2 cap2 z2 p2 i2 HI.out.2.1 HI.out.2.2 true V2.out _ T1.out.r2).mono ?_
  rintro e w2 ⟨rfl, hb⟩
  have T2 := Lib.hid (T1.out.call hb)
  have HS2 := Lib.hid (Nat.le_trans HS1.out hb.size)
  clear hb c0 c1 c2 f0 f1 f2
  obtain ⟨c0, c1, c2, f0, f1, f2⟩ := T2.out.c1
  go_wp2_with fail
  refine (normal_ok a1 n1 cap1 z1 p1 i1 G1.out _ T2.out.r1).mono ?_
  rintro e w3 ⟨a3, n3, cap3, x1, r1, k1, rfl, hb, hr, hn, hx⟩
  obtain ⟨rfl, rfl, rfl⟩ := hn.canon G1.out G1.out HN.out.1 (fun _ => rfl)
  obtain ⟨W3, hW3⟩ : ∃ W3, (((w3.setCell ⟨w.heap.size, 0, none⟩ (.slice a3 n3 cap3)).setCell ⟨w.heap.size, 1, none⟩ (.int .i64 r1)).setCell ⟨w.heap.size, 2, none⟩ (.int .i64 k1)) = W3 := ⟨_, rfl⟩
  have T3 := Lib.hid (show Sb w a3 n3 cap3 r1 k1 x1 a2 n2 cap2 p2 i2 z2 W3 by rw [← hW3]; exact (T2.out.call hb).put1 hr (fun x h => by have := hx x h; have := HS2.out; omega))
  have HS3 := Lib.hid (show w.heap.size + 3 ≤ W3.heap.size by rw [← hW3]; have := hb.size; have := HS2.out; simp [World.setCell]; omega)
  have HW3 := Lib.hid hW3
  have g3 := T2.out.c2.below hb
  clear c0 c1 c2 f0 f1 f2
  obtain ⟨c0, c1, c2, f0, f1, f2⟩ := T2.out.c1.below hb
  obtain ⟨d0', d1', d2', g0', g1', g2'⟩ := g3
  clear hb hr hn hx hW3
  go_wp2_with fail
  rw [HW3.out]
  refine (normal_ok a2 n2 cap2 z2 p2 i2 G2.out _ T3.out.r2).mono ?_
  rintro e w4 ⟨a4, n4, cap4, x2, r2, k2, rfl, hb, hr, hn, hx⟩
  obtain ⟨rfl, rfl, rfl⟩ := hn.canon G2.out G2.out HN.out.2 (fun _ => rfl)
  obtain ⟨W4, hW4⟩ : ∃ W4, (((w4.setCell ⟨w.heap.size + 1, 0, none⟩ (.slice a4 n4 cap4)).setCell ⟨w.heap.size + 1, 1, none⟩ (.int .i64 r2)).setCell ⟨w.heap.size + 1, 2, none⟩ (.int .i64 k2)) = W4 := ⟨_, rfl⟩
  have T4 := Lib.hid (show Sb w a3 n3 cap3 r1 k1 x1 a4 n4 cap4 r2 k2 x2 W4 by rw [← hW4]; exact (T3.out.call hb).put2 hr (fun x h => by have := hx x h; have := HS3.out; omega))
  have HW4 := Lib.hid hW4
  clear c0 c1 c2 f0 f1 f2 d0' d1' d2' g0' g1' g2'
  obtain ⟨c0, c1, c2, f0, f1, f2⟩ := T3.out.c2.below hb
  have g4 := T3.out.c1.below hb
  obtain ⟨d0', d1', d2', g0', g1', g2'⟩ := g4
  clear hb hr hn hx hW4
  go_wp2_with fail
  rw [HW4.out]
  refine (common_any r1 r2 L HL.out b1 (by omega) d1 (by omega) _).mono ?_
  rintro e w5 ⟨rfl, hd5⟩
  have T5 := Lib.hid (T4.out.call (below_dr (Below.refl _ _) hd5))
  clear c0 c1 c2 f0 f1 f2 d0' d1' d2' g0' g1' g2' hd5
  obtain ⟨W6, hW6⟩ : ∃ W, w5.alloc (.cells #[.slice none 0 0, .int .i64 L, .int .i64 0] 82) = W := ⟨_, rfl⟩
  have hz6 : Below w5.heap.size w5 W6 := by rw [← hW6]; exact (Below.refl _ _).alloc (Nat.le_refl _) _
  have T6 := Lib.hid (T5.out.call hz6)
  have KD6 := Lib.hid (show Cur3 W6 w5.heap.size (.slice none 0 0) (.int .i64 L) (.int .i64 0) by rw [← hW6]; exact Cur3.new w5 _ _ _ _)
  have FR := Lib.hid (And.intro T5.out.r1.far T5.out.r2.far)
  have hlt5 := T5.out.res.lt
  obtain ⟨D0, hD0⟩ : ∃ D, w5.heap.size = D := ⟨_, rfl⟩
  rw [hD0] at KD6 FR hlt5
  have HW6 := Lib.hid hW6
  clear hW6 hz6
  have hL3 : ¬ (120 : Int) < (L : Int) := by omega
  have GX := Lib.hid (And.intro (HN.out.1.good G1.out) (HN.out.2.good G2.out))
  obtain ⟨c0, c1, c2, f0, f1, f2⟩ := T5.out.c1
  obtain ⟨d0', d1', d2', g0', g1', g2'⟩ := T5.out.c2
  have q0 : ¬ w.heap.size = D0 := by omega
  have q1' : ¬ w.heap.size + 1 = D0 := by omega
  have q2' : w.heap.size < D0 := by omega
  have q3' : w.heap.size + 1 < D0 := by omega
  go_upto_region 8 with fail
  try rw [hD0]
  rw [HW6.out]
  clear c0 c1 c2 f0 f1 f2 d0' d1' d2' g0' g1' g2'
  go_cut [44] (fun s44 wx => s44 = .bool (finB x1 r1 k1 && finB x2 r2 k2) ∧ Hid (Sb w a3 n3 cap3 r1 k1 x1 a4 n4 cap4 r2 k2 x2 wx ∧ Cur3 wx D0 (.slice none 0 0) (.int .i64 L) (.int .i64 0)))
  case first =>
    obtain ⟨c0, c1, c2, f0, f1, f2⟩ := T6.out.c1
    have j1 : In64 (r1 : Int) := ⟨by omega, by omega⟩
    have j2 : In64 (r2 : Int) := ⟨by omega, by omega⟩
    have j3 : In64 k1 := ⟨by have := GX.out.1.i0; omega, by have := GX.out.1.i1; omega⟩
    have j4 : In64 k2 := ⟨by have := GX.out.2.i0; omega, by have := GX.out.2.i1; omega⟩
    have HJ := Lib.hid (And.intro (And.intro j1 j3) (And.intro j2 j4))
    clear j1 j2 j3 j4
    cases hb1 : finB x1 r1 k1 with
    | false =>
      have HB1 := Lib.hid hb1
      clear hb1
      go_wp2_with fail
      refine (finite_any a3 n3 cap3 x1 r1 k1 HJ.out.1.1 HJ.out.1.2 false HB1.out _ T6.out.r1).mono ?_
      rintro e w7 ⟨rfl, hb⟩
      have P7 := Lib.hid (And.intro (T6.out.call hb) (KD6.out.below hb))
      clear hb
      go_wp2_with fail
      go_meet
      exact ⟨by rw [HB1.out]; rfl, P7⟩
    | true =>
      have HB1 := Lib.hid hb1
      clear hb1
      go_wp2_with fail
      refine (finite_any a3 n3 cap3 x1 r1 k1 HJ.out.1.1 HJ.out.1.2 true HB1.out _ T6.out.r1).mono ?_
      rintro e w7 ⟨rfl, hb⟩
      have T7 := Lib.hid (T6.out.call hb)
      have KD7 := Lib.hid (KD6.out.below hb)
      clear hb c0 c1 c2 f0 f1 f2
      obtain ⟨c0, c1, c2, f0, f1, f2⟩ := T7.out.c2
      obtain ⟨bb, hbb⟩ : ∃ bb, finB x2 r2 k2 = bb := ⟨_, rfl⟩
      have HB2 := Lib.hid hbb
      clear hbb
      go_wp2_with fail
      refine (finite_any a4 n4 cap4 x2 r2 k2 HJ.out.2.1 HJ.out.2.2 bb HB2.out _ T7.out.r2).mono ?_
      rintro e w8 ⟨rfl, hb⟩
      have P8 := Lib.hid (And.intro (T7.out.call hb) (KD7.out.below hb))
      clear hb
      go_wp2_with fail
      go_meet
      exact ⟨by rw [HB1.out, HB2.out]; rfl, P8⟩
  case rest =>
    obtain ⟨rfl, HT⟩ := hcut
    obtain ⟨w7, rfl⟩ : ∃ u : World, u = wc := ⟨_, rfl⟩
    obtain ⟨bb, hbb⟩ : ∃ bb, (finB x1 r1 k1 && finB x2 r2 k2) = bb := ⟨_, rfl⟩
    rw [hbb]
    obtain ⟨G, hG⟩ : ∃ G, restG x1 r1 k1 x2 r2 k2 L = G := ⟨_, rfl⟩
    have hGL : bb = false → G = 0 := fun hf => by
      rw [← hG]
      refine restG_inf ?_
      rw [hf] at hbb
      by_cases i1 : InfC x1
      · exact .inl i1
      · refine .inr (Classical.not_not.1 fun i2 => ?_)
        rw [(finB_of GX.out.1).2 i1, (finB_of GX.out.2).2 i2] at hbb
        cases hbb
    have hGF : bb = true → G = max 0 (((L / r1 : Nat) : Int) * k1 - ((L / r2 : Nat) : Int) * k2) := fun hf => by
      rw [← hG]
      rw [hf, Bool.and_eq_true] at hbb
      exact restG_fin ((finB_of GX.out.1).1 hbb.1) ((finB_of GX.out.2).1 hbb.2)
    have HGG := Lib.hid (And.intro hGL hGF)
    have HGE := Lib.hid hG
    have HBB := Lib.hid hbb
    clear T0 T1 T2 T3 T4 T5 T6 KD6 HW3 HW4 HW hbb hG hGL hGF
    go_upto_if 44 with fail
    go_cut [] (fun wx => Hid (Sb w a3 n3 cap3 r1 k1 x1 a4 n4 cap4 r2 k2 x2 wx ∧ Cur3 wx D0 (.slice none 0 0) (.int .i64 L) (.int .i64 G)))
    case first =>
      cases bb with
      | false =>
        have e := HGG.out.1 rfl
        go_wp2_with fail
        go_meet
        rw [e]
        exact HT
      | true =>
      have HFI := Lib.hid (show (¬ InfC x1) ∧ ¬ InfC x2 from by
        have := HBB.out
        rw [Bool.and_eq_true] at this
        exact ⟨(finB_of GX.out.1).1 this.1, (finB_of GX.out.2).1 this.2⟩)
      have fb1 := (fin_low GX.out.1 HFI.out.1 hL2).1
      have fb2 := (fin_low GX.out.2 HFI.out.2 hL2).1
      have eG := HGG.out.2 rfl
      obtain ⟨m1, hm1⟩ : ∃ k, L / r1 = k := ⟨_, rfl⟩
      have hmq1 : (L : Int).tdiv (r1 : Int) = (m1 : Int) := by rw [Int.tdiv_eq_ediv_of_nonneg (by omega), ← hm1]; exact (Int.natCast_ediv _ _).symm
      have hmz1 : ¬ (r1 : Int) = 0 := by omega
      have hmn1 : ¬ r1 = 0 := by omega
      have hmd1 : (L : Int) / (r1 : Int) = (m1 : Int) := by rw [← hm1]; exact (Int.natCast_ediv _ _).symm
      have hml1 : m1 ≤ L := by rw [← hm1]; exact Nat.div_le_self _ _
      have hmw1 : IntKind.i64.wrap (m1 : Int) = (m1 : Int) := IntWalk.i64_in _ ⟨by omega, by omega⟩
      obtain ⟨X1, hX1⟩ : ∃ x, (m1 : Int) * k1 = x := ⟨_, rfl⟩
      have hXb1 := fb1
      rw [hm1, hX1] at hXb1
      obtain ⟨hXl1, hXu1⟩ := hXb1
      have hXw1 : IntKind.i64.wrap ((m1 : Int) * k1) = X1 := by rw [hX1]; exact IntWalk.i64_in _ ⟨by omega, by omega⟩
      obtain ⟨m2, hm2⟩ : ∃ k, L / r2 = k := ⟨_, rfl⟩
      have hmq2 : (L : Int).tdiv (r2 : Int) = (m2 : Int) := by rw [Int.tdiv_eq_ediv_of_nonneg (by omega), ← hm2]; exact (Int.natCast_ediv _ _).symm
      have hmz2 : ¬ (r2 : Int) = 0 := by omega
      have hmn2 : ¬ r2 = 0 := by omega
      have hmd2 : (L : Int) / (r2 : Int) = (m2 : Int) := by rw [← hm2]; exact (Int.natCast_ediv _ _).symm
      have hml2 : m2 ≤ L := by rw [← hm2]; exact Nat.div_le_self _ _
      have hmw2 : IntKind.i64.wrap (m2 : Int) = (m2 : Int) := IntWalk.i64_in _ ⟨by omega, by omega⟩
      obtain ⟨X2, hX2⟩ : ∃ x, (m2 : Int) * k2 = x := ⟨_, rfl⟩
      have hXb2 := fb2
      rw [hm2, hX2] at hXb2
      obtain ⟨hXl2, hXu2⟩ := hXb2
      have hXw2 : IntKind.i64.wrap ((m2 : Int) * k2) = X2 := by rw [hX2]; exact IntWalk.i64_in _ ⟨by omega, by omega⟩
      rw [hm1, hm2, hX1, hX2] at eG
      have HT9 := Lib.hid (And.intro (HT.out.1.call (Below.refl _ _).drew) (HT.out.2.drew))
      have KS9 := Lib.hid (show ∀ u, Sb w a3 n3 cap3 r1 k1 x1 a4 n4 cap4 r2 k2 x2 u ∧ Cur3 u D0 (.slice none 0 0) (.int .i64 L) (.int .i64 0) → (((u.cell? ⟨w.heap.size, 0, none⟩ = some (.slice a3 n3 cap3) ∧ u.cell? ⟨w.heap.size, 1, none⟩ = some (.int .i64 r1) ∧ u.cell? ⟨w.heap.size, 2, none⟩ = some (.int .i64 k1)) ∧ (u.cell? ⟨w.heap.size + 1, 0, none⟩ = some (.slice a4 n4 cap4) ∧ u.cell? ⟨w.heap.size + 1, 1, none⟩ = some (.int .i64 r2) ∧ u.cell? ⟨w.heap.size + 1, 2, none⟩ = some (.int .i64 k2))) ∧ u.cell? ⟨D0, 1, none⟩ = some (.int .i64 L)) from fun u hu => ⟨⟨⟨hu.1.c1.c0, hu.1.c1.c1, hu.1.c1.c2⟩, hu.1.c2.c0, hu.1.c2.c1, hu.1.c2.c2⟩, hu.2.c1⟩)
      have O9 := HT9
      have hXs : IntKind.i64.wrap (X1 - X2) = X1 - X2 := IntWalk.i64_in _ ⟨by omega, by omega⟩
      by_cases hd : 0 < X1 - X2
      · obtain rfl : G = X1 - X2 := by omega
        have hd2 : ¬ X1 - X2 < 0 := by omega
        clear eG fb1 fb2 hm1 hm2 hX1 hX2
        go_upto_region 9 with fail
        refine wp_region_keeps (fun u => (((u.cell? ⟨w.heap.size, 0, none⟩ = some (.slice a3 n3 cap3) ∧ u.cell? ⟨w.heap.size, 1, none⟩ = some (.int .i64 r1) ∧ u.cell? ⟨w.heap.size, 2, none⟩ = some (.int .i64 k1)) ∧ (u.cell? ⟨w.heap.size + 1, 0, none⟩ = some (.slice a4 n4 cap4) ∧ u.cell? ⟨w.heap.size + 1, 1, none⟩ = some (.int .i64 r2) ∧ u.cell? ⟨w.heap.size + 1, 2, none⟩ = some (.int .i64 k2))) ∧ u.cell? ⟨D0, 1, none⟩ = some (.int .i64 L))) 19 1 (by kernel_rfl) (by kernel_rfl) (KS9.out _ O9.out) (fun hHeld0 => ?_)
        refine wpAnyK_take (i := 0) (v := ?_) rfl (by kernel_rfl) (fun _ _ _ h => h) (Or.inl ⟨by rfl, ?_⟩) (by assumption) ?_
        rotate_left
        · (intro w hSw; (try dsimp only at hSw); go_simp; try with_reducible rfl)
        try simp only [Act.put, List.getElem_toArray, List.getElem_cons_zero, List.getElem_cons_succ, List.setIfInBounds_toArray, List.set_cons_zero, List.set_cons_succ]
        refine wpAnyK_take (i := 1) (v := ?_) rfl (by kernel_rfl) (fun _ _ _ h => h) (Or.inl ⟨by rfl, ?_⟩) (by assumption) ?_
        rotate_left
        · (intro w hSw; (try dsimp only at hSw); go_simp; try with_reducible rfl)
        try simp only [Act.put, List.getElem_toArray, List.getElem_cons_zero, List.getElem_cons_succ, List.setIfInBounds_toArray, List.set_cons_zero, List.set_cons_succ]
        refine wpAnyK_take (i := 2) (v := ?_) rfl (by kernel_rfl) (fun _ _ _ h => h) (Or.inl ⟨by rfl, ?_⟩) (by assumption) ?_
        rotate_left
        · (intro w hSw; (try dsimp only at hSw); go_simp; try with_reducible rfl)
        try simp only [Act.put, List.getElem_toArray, List.getElem_cons_zero, List.getElem_cons_succ, List.setIfInBounds_toArray, List.set_cons_zero, List.set_cons_succ]
        refine wpAnyK_take (i := 3) (v := ?_) rfl (by kernel_rfl) (fun _ _ _ h => h) (Or.inl ⟨by rfl, ?_⟩) (by assumption) ?_
        rotate_left
        · (intro w hSw; (try dsimp only at hSw); go_simp; try with_reducible rfl)
        try simp only [Act.put, List.getElem_toArray, List.getElem_cons_zero, List.getElem_cons_succ, List.setIfInBounds_toArray, List.set_cons_zero, List.set_cons_succ]
        refine wpAnyK_take (i := 4) (v := ?_) rfl (by kernel_rfl) (fun _ _ _ h => h) (Or.inl ⟨by rfl, ?_⟩) (by assumption) ?_
        rotate_left
        · (intro w hSw; (try dsimp only at hSw); go_simp; try with_reducible rfl)
        try simp only [Act.put, List.getElem_toArray, List.getElem_cons_zero, List.getElem_cons_succ, List.setIfInBounds_toArray, List.set_cons_zero, List.set_cons_succ]
        refine wpAnyK_take (i := 5) (v := ?_) rfl (by kernel_rfl) (fun _ _ _ h => h) (Or.inl ⟨by rfl, ?_⟩) (by assumption) ?_
        rotate_left
        · (intro w hSw; (try dsimp only at hSw); go_simp; try with_reducible rfl)
        try simp only [Act.put, List.getElem_toArray, List.getElem_cons_zero, List.getElem_cons_succ, List.setIfInBounds_toArray, List.set_cons_zero, List.set_cons_succ]
        refine wpAnyK_take (i := 6) (v := ?_) rfl (by kernel_rfl) (fun _ _ _ h => h) (Or.inl ⟨by rfl, ?_⟩) (by assumption) ?_
        rotate_left
        · (intro w hSw; (try dsimp only at hSw); go_simp; try with_reducible rfl)
        try simp only [Act.put, List.getElem_toArray, List.getElem_cons_zero, List.getElem_cons_succ, List.setIfInBounds_toArray, List.set_cons_zero, List.set_cons_succ]
        refine wpAnyK_take (i := 7) (v := ?_) rfl (by kernel_rfl) (fun _ _ _ h => h) (Or.inl ⟨by rfl, ?_⟩) (by assumption) ?_
        rotate_left
        · (intro w hSw; (try dsimp only at hSw); go_simp; try with_reducible rfl)
        try simp only [Act.put, List.getElem_toArray, List.getElem_cons_zero, List.getElem_cons_succ, List.setIfInBounds_toArray, List.set_cons_zero, List.set_cons_succ]
        refine wpAnyK_take (i := 8) (v := ?_) rfl (by kernel_rfl) (fun _ _ _ h => h) (Or.inl ⟨by rfl, ?_⟩) (by assumption) ?_
        rotate_left
        · (intro w hSw; (try dsimp only at hSw); go_simp; try with_reducible rfl)
        try simp only [Act.put, List.getElem_toArray, List.getElem_cons_zero, List.getElem_cons_succ, List.setIfInBounds_toArray, List.set_cons_zero, List.set_cons_succ]
        refine wpAnyK_take (i := 9) (v := ?_) rfl (by kernel_rfl) (fun _ _ _ h => h) (Or.inl ⟨by rfl, ?_⟩) (by assumption) ?_
        rotate_left
        · (intro w hSw; (try dsimp only at hSw); go_simp; try with_reducible rfl)
        try simp only [Act.put, List.getElem_toArray, List.getElem_cons_zero, List.getElem_cons_succ, List.setIfInBounds_toArray, List.set_cons_zero, List.set_cons_succ]
        refine wpAnyK_take (i := 10) (v := ?_) rfl (by kernel_rfl) (fun _ _ _ h => h) (Or.inl ⟨by rfl, ?_⟩) (by assumption) ?_
        rotate_left
        · (intro w hSw; (try dsimp only at hSw); go_simp; try with_reducible rfl)
        try simp only [Act.put, List.getElem_toArray, List.getElem_cons_zero, List.getElem_cons_succ, List.setIfInBounds_toArray, List.set_cons_zero, List.set_cons_succ]
        refine wpAnyK_take (i := 11) (v := ?_) rfl (by kernel_rfl) (fun _ _ _ h => h) (Or.inl ⟨by rfl, ?_⟩) (by assumption) ?_
        rotate_left
        · (intro w hSw; (try dsimp only at hSw); go_simp; try with_reducible rfl)
        try simp only [Act.put, List.getElem_toArray, List.getElem_cons_zero, List.getElem_cons_succ, List.setIfInBounds_toArray, List.set_cons_zero, List.set_cons_succ]
        refine wpAnyK_take (i := 12) (v := ?_) rfl (by kernel_rfl) (fun _ _ _ h => h) (Or.inl ⟨by rfl, ?_⟩) (by assumption) ?_
        rotate_left
        · (intro w hSw; (try dsimp only at hSw); go_simp; try with_reducible rfl)
        try simp only [Act.put, List.getElem_toArray, List.getElem_cons_zero, List.getElem_cons_succ, List.setIfInBounds_toArray, List.set_cons_zero, List.set_cons_succ]
        refine wpAnyK_take (i := 13) (v := ?_) rfl (by kernel_rfl) (fun _ _ _ h => h) (Or.inl ⟨by rfl, ?_⟩) (by assumption) ?_
        rotate_left
        · (intro w hSw; (try dsimp only at hSw); go_simp; try with_reducible rfl)
        try simp only [Act.put, List.getElem_toArray, List.getElem_cons_zero, List.getElem_cons_succ, List.setIfInBounds_toArray, List.set_cons_zero, List.set_cons_succ]
        refine wpAnyK_take (i := 14) (v := ?_) rfl (by kernel_rfl) (fun _ _ _ h => h) (Or.inl ⟨by rfl, ?_⟩) (by assumption) ?_
        rotate_left
        · (intro w hSw; (try dsimp only at hSw); go_simp; try with_reducible rfl)
        try simp only [Act.put, List.getElem_toArray, List.getElem_cons_zero, List.getElem_cons_succ, List.setIfInBounds_toArray, List.set_cons_zero, List.set_cons_succ]
        refine wpAnyK_take (i := 15) (v := ?_) rfl (by kernel_rfl) (fun _ _ _ h => h) (Or.inl ⟨by rfl, ?_⟩) (by assumption) ?_
        rotate_left
        · (intro w hSw; (try dsimp only at hSw); go_simp; try with_reducible rfl)
        try simp only [Act.put, List.getElem_toArray, List.getElem_cons_zero, List.getElem_cons_succ, List.setIfInBounds_toArray, List.set_cons_zero, List.set_cons_succ]
        refine wpAnyK_take (i := 16) (v := ?_) rfl (by kernel_rfl) (fun _ _ _ h => h) (Or.inl ⟨by rfl, ?_⟩) (by assumption) ?_
        rotate_left
        · (intro w hSw; (try dsimp only at hSw); go_simp; try with_reducible rfl)
        try simp only [Act.put, List.getElem_toArray, List.getElem_cons_zero, List.getElem_cons_succ, List.setIfInBounds_toArray, List.set_cons_zero, List.set_cons_succ]
        refine wpAnyK_take (i := 17) (v := ?_) rfl (by kernel_rfl) (fun _ _ _ h => h) (Or.inl ⟨by rfl, ?_⟩) (by assumption) ?_
        rotate_left
        · (intro w hSw; (try dsimp only at hSw); go_simp; try with_reducible rfl)
        try simp only [Act.put, List.getElem_toArray, List.getElem_cons_zero, List.getElem_cons_succ, List.setIfInBounds_toArray, List.set_cons_zero, List.set_cons_succ]
        refine wpAnyK_take (i := 18) (v := ?_) rfl (by kernel_rfl) (fun _ _ _ h => h) (Or.inl ⟨by rfl, ?_⟩) (by assumption) ?_
        rotate_left
        · (intro w hSw; (try dsimp only at hSw); go_simp; try with_reducible rfl)
        try simp only [Act.put, List.getElem_toArray, List.getElem_cons_zero, List.getElem_cons_succ, List.setIfInBounds_toArray, List.set_cons_zero, List.set_cons_succ]
        refine wpAnyK_done (by kernel_rfl) ?_
        simp only [List.drop_succ_cons, List.drop_zero]
        clear hHeld0
        have HP9 := Lib.hid (And.intro (HT9.out.1.other (by omega) (fun x h1 h2 => FR.out.1 x h1 h2) (fun x h1 h2 => FR.out.2 x h1 h2) 2 (.int .i64 (X1 - X2))) (HT9.out.2.set2 (.int .i64 (X1 - X2))))
        obtain ⟨c0, c1, c2, f0, f1, f2⟩ := HT9.out.2
        go_wp2_with fail
        go_meet
        exact HP9
      · obtain rfl : G = 0 := by omega
        clear eG fb1 fb2 hm1 hm2 hX1 hX2
        go_upto_region 9 with fail
        refine wp_region_keeps (fun u => (((u.cell? ⟨w.heap.size, 0, none⟩ = some (.slice a3 n3 cap3) ∧ u.cell? ⟨w.heap.size, 1, none⟩ = some (.int .i64 r1) ∧ u.cell? ⟨w.heap.size, 2, none⟩ = some (.int .i64 k1)) ∧ (u.cell? ⟨w.heap.size + 1, 0, none⟩ = some (.slice a4 n4 cap4) ∧ u.cell? ⟨w.heap.size + 1, 1, none⟩ = some (.int .i64 r2) ∧ u.cell? ⟨w.heap.size + 1, 2, none⟩ = some (.int .i64 k2))) ∧ u.cell? ⟨D0, 1, none⟩ = some (.int .i64 L))) 19 1 (by kernel_rfl) (by kernel_rfl) (KS9.out _ O9.out) (fun hHeld0 => ?_)
        refine wpAnyK_take (i := 0) (v := ?_) rfl (by kernel_rfl) (fun _ _ _ h => h) (Or.inl ⟨by rfl, ?_⟩) (by assumption) ?_
        rotate_left
        · (intro w hSw; (try dsimp only at hSw); go_simp; try with_reducible rfl)
        try simp only [Act.put, List.getElem_toArray, List.getElem_cons_zero, List.getElem_cons_succ, List.setIfInBounds_toArray, List.set_cons_zero, List.set_cons_succ]
        refine wpAnyK_take (i := 1) (v := ?_) rfl (by kernel_rfl) (fun _ _ _ h => h) (Or.inl ⟨by rfl, ?_⟩) (by assumption) ?_
        rotate_left
        · (intro w hSw; (try dsimp only at hSw); go_simp; try with_reducible rfl)
        try simp only [Act.put, List.getElem_toArray, List.getElem_cons_zero, List.getElem_cons_succ, List.setIfInBounds_toArray, List.set_cons_zero, List.set_cons_succ]
        refine wpAnyK_take (i := 2) (v := ?_) rfl (by kernel_rfl) (fun _ _ _ h => h) (Or.inl ⟨by rfl, ?_⟩) (by assumption) ?_
        rotate_left
        · (intro w hSw; (try dsimp only at hSw); go_simp; try with_reducible rfl)
        try simp only [Act.put, List.getElem_toArray, List.getElem_cons_zero, List.getElem_cons_succ, List.setIfInBounds_toArray, List.set_cons_zero, List.set_cons_succ]
        refine wpAnyK_take (i := 3) (v := ?_) rfl (by kernel_rfl) (fun _ _ _ h => h) (Or.inl ⟨by rfl, ?_⟩) (by assumption) ?_
        rotate_left
        · (intro w hSw; (try dsimp only at hSw); go_simp; try with_reducible rfl)
        try simp only [Act.put, List.getElem_toArray, List.getElem_cons_zero, List.getElem_cons_succ, List.setIfInBounds_toArray, List.set_cons_zero, List.set_cons_succ]
        refine wpAnyK_take (i := 4) (v := ?_) rfl (by kernel_rfl) (fun _ _ _ h => h) (Or.inl ⟨by rfl, ?_⟩) (by assumption) ?_
        rotate_left
        · (intro w hSw; (try dsimp only at hSw); go_simp; try with_reducible rfl)
        try simp only [Act.put, List.getElem_toArray, List.getElem_cons_zero, List.getElem_cons_succ, List.setIfInBounds_toArray, List.set_cons_zero, List.set_cons_succ]
        refine wpAnyK_take (i := 5) (v := ?_) rfl (by kernel_rfl) (fun _ _ _ h => h) (Or.inl ⟨by rfl, ?_⟩) (by assumption) ?_
        rotate_left
        · (intro w hSw; (try dsimp only at hSw); go_simp; try with_reducible rfl)
        try simp only [Act.put, List.getElem_toArray, List.getElem_cons_zero, List.getElem_cons_succ, List.setIfInBounds_toArray, List.set_cons_zero, List.set_cons_succ]
        refine wpAnyK_take (i := 6) (v := ?_) rfl (by kernel_rfl) (fun _ _ _ h => h) (Or.inl ⟨by rfl, ?_⟩) (by assumption) ?_
        rotate_left
        · (intro w hSw; (try dsimp only at hSw); go_simp; try with_reducible rfl)
        try simp only [Act.put, List.getElem_toArray, List.getElem_cons_zero, List.getElem_cons_succ, List.setIfInBounds_toArray, List.set_cons_zero, List.set_cons_succ]
        refine wpAnyK_take (i := 7) (v := ?_) rfl (by kernel_rfl) (fun _ _ _ h => h) (Or.inl ⟨by rfl, ?_⟩) (by assumption) ?_
        rotate_left
        · (intro w hSw; (try dsimp only at hSw); go_simp; try with_reducible rfl)
        try simp only [Act.put, List.getElem_toArray, List.getElem_cons_zero, List.getElem_cons_succ, List.setIfInBounds_toArray, List.set_cons_zero, List.set_cons_succ]
        refine wpAnyK_take (i := 8) (v := ?_) rfl (by kernel_rfl) (fun _ _ _ h => h) (Or.inl ⟨by rfl, ?_⟩) (by assumption) ?_
        rotate_left
        · (intro w hSw; (try dsimp only at hSw); go_simp; try with_reducible rfl)
        try simp only [Act.put, List.getElem_toArray, List.getElem_cons_zero, List.getElem_cons_succ, List.setIfInBounds_toArray, List.set_cons_zero, List.set_cons_succ]
        refine wpAnyK_take (i := 9) (v := ?_) rfl (by kernel_rfl) (fun _ _ _ h => h) (Or.inl ⟨by rfl, ?_⟩) (by assumption) ?_
        rotate_left
        · (intro w hSw; (try dsimp only at hSw); go_simp; try with_reducible rfl)
        try simp only [Act.put, List.getElem_toArray, List.getElem_cons_zero, List.getElem_cons_succ, List.setIfInBounds_toArray, List.set_cons_zero, List.set_cons_succ]
        refine wpAnyK_take (i := 10) (v := ?_) rfl (by kernel_rfl) (fun _ _ _ h => h) (Or.inl ⟨by rfl, ?_⟩) (by assumption) ?_
        rotate_left
        · (intro w hSw; (try dsimp only at hSw); go_simp; try with_reducible rfl)
        try simp only [Act.put, List.getElem_toArray, List.getElem_cons_zero, List.getElem_cons_succ, List.setIfInBounds_toArray, List.set_cons_zero, List.set_cons_succ]
        refine wpAnyK_take (i := 11) (v := ?_) rfl (by kernel_rfl) (fun _ _ _ h => h) (Or.inl ⟨by rfl, ?_⟩) (by assumption) ?_
        rotate_left
        · (intro w hSw; (try dsimp only at hSw); go_simp; try with_reducible rfl)
        try simp only [Act.put, List.getElem_toArray, List.getElem_cons_zero, List.getElem_cons_succ, List.setIfInBounds_toArray, List.set_cons_zero, List.set_cons_succ]
        refine wpAnyK_take (i := 12) (v := ?_) rfl (by kernel_rfl) (fun _ _ _ h => h) (Or.inl ⟨by rfl, ?_⟩) (by assumption) ?_
        rotate_left
        · (intro w hSw; (try dsimp only at hSw); go_simp; try with_reducible rfl)
        try simp only [Act.put, List.getElem_toArray, List.getElem_cons_zero, List.getElem_cons_succ, List.setIfInBounds_toArray, List.set_cons_zero, List.set_cons_succ]
        refine wpAnyK_take (i := 13) (v := ?_) rfl (by kernel_rfl) (fun _ _ _ h => h) (Or.inl ⟨by rfl, ?_⟩) (by assumption) ?_
        rotate_left
        · (intro w hSw; (try dsimp only at hSw); go_simp; try with_reducible rfl)
        try simp only [Act.put, List.getElem_toArray, List.getElem_cons_zero, List.getElem_cons_succ, List.setIfInBounds_toArray, List.set_cons_zero, List.set_cons_succ]
        refine wpAnyK_take (i := 14) (v := ?_) rfl (by kernel_rfl) (fun _ _ _ h => h) (Or.inl ⟨by rfl, ?_⟩) (by assumption) ?_
        rotate_left
        · (intro w hSw; (try dsimp only at hSw); go_simp; try with_reducible rfl)
        try simp only [Act.put, List.getElem_toArray, List.getElem_cons_zero, List.getElem_cons_succ, List.setIfInBounds_toArray, List.set_cons_zero, List.set_cons_succ]
        refine wpAnyK_take (i := 15) (v := ?_) rfl (by kernel_rfl) (fun _ _ _ h => h) (Or.inl ⟨by rfl, ?_⟩) (by assumption) ?_
        rotate_left
        · (intro w hSw; (try dsimp only at hSw); go_simp; try with_reducible rfl)
        try simp only [Act.put, List.getElem_toArray, List.getElem_cons_zero, List.getElem_cons_succ, List.setIfInBounds_toArray, List.set_cons_zero, List.set_cons_succ]
        refine wpAnyK_take (i := 16) (v := ?_) rfl (by kernel_rfl) (fun _ _ _ h => h) (Or.inl ⟨by rfl, ?_⟩) (by assumption) ?_
        rotate_left
        · (intro w hSw; (try dsimp only at hSw); go_simp; try with_reducible rfl)
        try simp only [Act.put, List.getElem_toArray, List.getElem_cons_zero, List.getElem_cons_succ, List.setIfInBounds_toArray, List.set_cons_zero, List.set_cons_succ]
        refine wpAnyK_take (i := 17) (v := ?_) rfl (by kernel_rfl) (fun _ _ _ h => h) (Or.inl ⟨by rfl, ?_⟩) (by assumption) ?_
        rotate_left
        · (intro w hSw; (try dsimp only at hSw); go_simp; try with_reducible rfl)
        try simp only [Act.put, List.getElem_toArray, List.getElem_cons_zero, List.getElem_cons_succ, List.setIfInBounds_toArray, List.set_cons_zero, List.set_cons_succ]
        refine wpAnyK_take (i := 18) (v := ?_) rfl (by kernel_rfl) (fun _ _ _ h => h) (Or.inl ⟨by rfl, ?_⟩) (by assumption) ?_
        rotate_left
        · (intro w hSw; (try dsimp only at hSw); go_simp; try with_reducible rfl)
        try simp only [Act.put, List.getElem_toArray, List.getElem_cons_zero, List.getElem_cons_succ, List.setIfInBounds_toArray, List.set_cons_zero, List.set_cons_succ]
        refine wpAnyK_done (by kernel_rfl) ?_
        simp only [List.drop_succ_cons, List.drop_zero]
        clear hHeld0
        have HP9 := Lib.hid (And.intro (HT9.out.1.other (by omega) (fun x h1 h2 => FR.out.1 x h1 h2) (fun x h1 h2 => FR.out.2 x h1 h2) 2 (.int .i64 (0))) (HT9.out.2.set2 (.int .i64 (0))))
        obtain ⟨c0, c1, c2, f0, f1, f2⟩ := HT9.out.2
        go_wp2_with fail
        go_meet
        exact HP9
    case rest =>
      obtain ⟨w8, rfl⟩ : ∃ u : World, u = wc := ⟨_, rfl⟩
      have T8 := Lib.hid (hcut.out.1.call (Below.refl _ _).drew)
      have KD8 := Lib.hid hcut.out.2.drew
      have KSB := Lib.hid (show ∀ u, Sb w a3 n3 cap3 r1 k1 x1 a4 n4 cap4 r2 k2 x2 u → ((u.cell? ⟨w.heap.size, 0, none⟩ = some (.slice a3 n3 cap3) ∧ u.cell? ⟨w.heap.size, 1, none⟩ = some (.int .i64 r1) ∧ u.cell? ⟨w.heap.size, 2, none⟩ = some (.int .i64 k1)) ∧ (u.cell? ⟨w.heap.size + 1, 0, none⟩ = some (.slice a4 n4 cap4) ∧ u.cell? ⟨w.heap.size + 1, 1, none⟩ = some (.int .i64 r2) ∧ u.cell? ⟨w.heap.size + 1, 2, none⟩ = some (.int .i64 k2))) from fun u hu => ⟨⟨hu.c1.c0, hu.c1.c1, hu.c1.c2⟩, hu.c2.c0, hu.c2.c1, hu.c2.c2⟩)
      clear HT hcut
      go_upto_region 10 with fail
      refine wp_region_keeps (fun u => ((u.cell? ⟨w.heap.size, 0, none⟩ = some (.slice a3 n3 cap3) ∧ u.cell? ⟨w.heap.size, 1, none⟩ = some (.int .i64 r1) ∧ u.cell? ⟨w.heap.size, 2, none⟩ = some (.int .i64 k1)) ∧ (u.cell? ⟨w.heap.size + 1, 0, none⟩ = some (.slice a4 n4 cap4) ∧ u.cell? ⟨w.heap.size + 1, 1, none⟩ = some (.int .i64 r2) ∧ u.cell? ⟨w.heap.size + 1, 2, none⟩ = some (.int .i64 k2)))) 4 2 (by kernel_rfl) (by kernel_rfl) (KSB.out _ T8.out) (fun hHeld0 => ?_)
      refine wpAnyK_take (i := 0) (v := ?_) rfl (by kernel_rfl) (fun _ _ _ h => h) (Or.inl ⟨by rfl, ?_⟩) (by assumption) ?_
      rotate_left
      · (intro w hSw; (try dsimp only at hSw); go_simp; try with_reducible rfl)
      try simp only [Act.put, List.getElem_toArray, List.getElem_cons_zero, List.getElem_cons_succ, List.setIfInBounds_toArray, List.set_cons_zero, List.set_cons_succ]
      refine wpAnyK_take (i := 2) (v := ?_) rfl (by kernel_rfl) (fun _ _ _ h => h) (Or.inl ⟨by rfl, ?_⟩) (by assumption) ?_
      rotate_left
      · (intro w hSw; (try dsimp only at hSw); go_simp; try with_reducible rfl)
      try simp only [Act.put, List.getElem_toArray, List.getElem_cons_zero, List.getElem_cons_succ, List.setIfInBounds_toArray, List.set_cons_zero, List.set_cons_succ]
      refine wpAnyK_step (i := 1) rfl (by kernel_rfl) (fun K hK => ?_)
      go_simp
      with_reducible refine (pvalues_p a3 n3 cap3 x1 r1 k1 GX.out.1 _ T8.out.r1).mono ?_
      rintro e u1 ⟨B1, rfl, hb1, hlo1, hhi1, hcp1⟩
      have T9 := Lib.hid (T8.out.call hb1)
      have KD9 := Lib.hid (KD8.out.below hb1)
      have C1 := Lib.hid hcp1
      have Z1 := Lib.hid (And.intro hb1.size (And.intro hlo1 hhi1))
      clear hb1 hlo1 hhi1 hcp1
      refine hK.out _ _ (KSB.out _ T9.out) (fun hHeld1 => ?_)
      clear hK K hHeld0
      try simp only [Act.put, List.getElem_toArray, List.getElem_cons_zero, List.getElem_cons_succ, List.setIfInBounds_toArray, List.set_cons_zero, List.set_cons_succ]
      refine wpAnyK_step (i := 3) rfl (by kernel_rfl) (fun K hK => ?_)
      go_simp
      with_reducible refine (pvalues_p a4 n4 cap4 x2 r2 k2 GX.out.2 _ T9.out.r2).mono ?_
      rintro e u2 ⟨B2, rfl, hb2, hlo2, hhi2, hcp2⟩
      have T10 := Lib.hid (T9.out.call hb2)
      have KD10 := Lib.hid (KD9.out.below hb2)
      have C11 := Lib.hid (C1.out.under hb2)
      have C2 := Lib.hid hcp2
      have Z2 := Lib.hid (And.intro hb2.size (And.intro hlo2 hhi2))
      clear hb2 hlo2 hhi2 hcp2
      refine hK.out _ _ (KSB.out _ T10.out) (fun hHeld2 => ?_)
      clear hK K hHeld1
      try simp only [Act.put, List.getElem_toArray, List.getElem_cons_zero, List.getElem_cons_succ, List.setIfInBounds_toArray, List.set_cons_zero, List.set_cons_succ]
      refine wpAnyK_done (by kernel_rfl) ?_
      simp only [List.drop_succ_cons, List.drop_zero]
      clear hHeld2
      obtain ⟨m, hm⟩ : ∃ m, 400 + 3 * L = m := ⟨_, rfl⟩
      have hmi : (400 : Int) + 3 * (L : Int) = (m : Int) := by omega
      have hm1000 : m ≤ 1000 := by omega
      have hmk := make_rowP m hm1000
      have HM := Lib.hid hm
      have hlt8 := KD8.out.lt
      have ld := KD10.out.lt
      have ldn : ¬ D0 = u2.heap.size := by omega
      obtain ⟨wl, hwl⟩ : ∃ W, (u2.alloc (.cells (madeCells #[.int .i64 0] m) 3)).setCell ⟨D0, 0, none⟩ (.slice (some ⟨u2.heap.size, 0, none⟩) m m) = W := ⟨_, rfl⟩
      have hzl : Below u2.heap.size u2 (u2.alloc (.cells (madeCells #[.int .i64 0] m) 3)) := (Below.refl _ _).alloc (Nat.le_refl _) _
      have HSL := Lib.hid (show SL w (eDif x1 r1 k1 x2 r2 k2) u2.heap.size m D0 L G B1 a3 n3 cap3 r1 k1 x1 B2 a4 n4 cap4 r2 k2 x2 0 wl by
        rw [← hwl]
        have y1 := Z1.out
        have y2 := Z2.out
        have hw8 : D0 < w8.heap.size := hlt8
        have hw8' : w8.drew.heap.size = w8.heap.size := rfl
        have F1 : Far B1 a3 n3 D0 := ⟨by omega, by omega, fun x h1 h2 => by have := FR.out.1 x h1 h2; omega⟩
        have F2 : Far B2 a4 n4 D0 := ⟨by omega, by omega, fun x h1 h2 => by have := FR.out.2 x h1 h2; omega⟩
        have F1' : Far B1 a3 n3 u2.heap.size := ⟨by omega, by omega, fun x h1 h2 => by have := FR.out.1 x h1 h2; omega⟩
        have F2' : Far B2 a4 n4 u2.heap.size := ⟨by omega, by omega, fun x h1 h2 => by have := FR.out.2 x h1 h2; omega⟩
        exact ⟨(((RowF.made u2 m).congr fun i hi => by rw [if_neg (Nat.not_lt_zero _)]).other (by omega) _ _), (C11.out.under hzl).other F1 _ _, (C2.out.under hzl).other F2 _ _, (KD10.out.below hzl).set0 _, (T10.out.res.below hzl).other (by omega) _ _, F1', F2', ⟨by omega, by omega⟩, (T10.out.below.trans (hzl.mono T10.out.below.size)).setCell (p := ⟨D0, 0, none⟩) (by show w.heap.size ≤ D0; omega) _⟩)
      obtain ⟨d0, d1, d2, d3, d4, d5⟩ := KD10.out
      obtain ⟨h0, h1, h2, h3, h4, h5⟩ := HSL.out.kd
      have hwl1 := hwl
      clear hm hzl hwl
      go_wp2_with fail
      try rw [hwl1]
      clear hwl1 hmk d0 d1 d2 d3 d4 d5 h0 h1 h2 h3 h4 h5
      have EV := Lib.hid (show ∀ (args : Array Value) (w : World), (callFunc 152 args).run Try.prog w = .ok (.enter 152 args) w from enters_of Try.func152 (by kernel_rfl) rfl)
      obtain ⟨lb, hlb⟩ : ∃ lb, u2.heap.size = lb := ⟨_, rfl⟩
      rw [hlb] at HSL ⊢
      clear hlb ld ldn
      go_loopw [77] (fun s77 wx => ∃ k : Nat, s77 = .int .i64 k ∧ k ≤ m ∧ Hid (SL w (eDif x1 r1 k1 x2 r2 k2) lb m D0 L G B1 a3 n3 cap3 r1 k1 x1 B2 a4 n4 cap4 r2 k2 x2 k wx)) (fun s77 _ => m - (intOf s77).toNat)
      case atStart => exact ⟨0, by go_num, Nat.zero_le _, HSL⟩
      case round =>
        obtain ⟨k, rfl, hk, HS⟩ := hrel
        obtain ⟨wk, rfl⟩ : ∃ u : World, u = wr := ⟨_, rfl⟩
        by_cases hlt : k < m
        · have hlti : (k : Int) < (m : Int) := by omega
          obtain ⟨v1, hv1⟩ : ∃ v, atC x1 r1 k1 k = v := ⟨_, rfl⟩
          obtain ⟨v2, hv2⟩ : ∃ v, atC x2 r2 k2 k = v := ⟨_, rfl⟩
          have M1 := Lib.hid (show Mid v1 by rw [← hv1]; exact at_mid GX.out.1 (by omega))
          have M2 := Lib.hid (show Mid v2 by rw [← hv2]; exact at_mid GX.out.2 (by omega))
          have HVD := Lib.hid (show encF (eDif x1 r1 k1 x2 r2 k2) k = subI v1 v2 by rw [← hv1, ← hv2]; exact enc_dif GX.out.1 GX.out.2 (by omega))
          have HS0 := Lib.hid (HS.out.call (Below.refl _ _).drew)
          have ev := EV.out
          obtain ⟨d0, d1, d2, d3, d4, d5⟩ := HS.out.kd
          go_upto_region 15 with fail
          clear d0 d1 d2 d3 d4 d5
          refine wp_region_keeps (fun u => (u.cell? ⟨D0, 0, none⟩ = some (.slice (some ⟨lb, 0, none⟩) m m))) 10 2 (by kernel_rfl) (by kernel_rfl) HS0.out.kd.c0 (fun hHeld0 => ?_)
          refine wpAnyK_take (i := 0) (v := ?_) rfl (by kernel_rfl) (fun _ _ _ h => h) (Or.inl ⟨by rfl, ?_⟩) (by assumption) ?_
          rotate_left
          · (intro w hSw; (try dsimp only at hSw); go_simp; try with_reducible rfl)
          try simp only [Act.put, List.getElem_toArray, List.getElem_cons_zero, List.getElem_cons_succ, List.setIfInBounds_toArray, List.set_cons_zero, List.set_cons_succ]
          refine wpAnyK_take (i := 1) (v := ?_) rfl (by kernel_rfl) (fun _ _ _ h => h) (Or.inl ⟨by rfl, ?_⟩) (by assumption) ?_
          rotate_left
          · (intro w hSw; (try dsimp only at hSw); go_simp; try with_reducible rfl)
          try simp only [Act.put, List.getElem_toArray, List.getElem_cons_zero, List.getElem_cons_succ, List.setIfInBounds_toArray, List.set_cons_zero, List.set_cons_succ]
          refine wpAnyK_take (i := 2) (v := ?_) rfl (by kernel_rfl) (fun _ _ _ h => h) (Or.inl ⟨by rfl, ?_⟩) (by assumption) ?_
          rotate_left
          · (intro w hSw; (try dsimp only at hSw); go_simp; try with_reducible rfl)
          try simp only [Act.put, List.getElem_toArray, List.getElem_cons_zero, List.getElem_cons_succ, List.setIfInBounds_toArray, List.set_cons_zero, List.set_cons_succ]
          refine wpAnyK_take (i := 3) (v := ?_) rfl (by kernel_rfl) (fun _ _ _ h => h) (Or.inl ⟨by rfl, ?_⟩) (by assumption) ?_
          rotate_left
          · (intro w hSw; (try dsimp only at hSw); go_simp; try with_reducible rfl)
          try simp only [Act.put, List.getElem_toArray, List.getElem_cons_zero, List.getElem_cons_succ, List.setIfInBounds_toArray, List.set_cons_zero, List.set_cons_succ]
          refine wpAnyK_take (i := 4) (v := ?_) rfl (by kernel_rfl) (fun _ _ _ h => h) (Or.inl ⟨by rfl, ?_⟩) (by assumption) ?_
          rotate_left
          · (intro w hSw; (try dsimp only at hSw); go_simp; try with_reducible rfl)
          try simp only [Act.put, List.getElem_toArray, List.getElem_cons_zero, List.getElem_cons_succ, List.setIfInBounds_toArray, List.set_cons_zero, List.set_cons_succ]
          refine wpAnyK_take (i := 6) (v := ?_) rfl (by kernel_rfl) (fun _ _ _ h => h) (Or.inl ⟨by rfl, ?_⟩) (by assumption) ?_
          rotate_left
          · (intro w hSw; (try dsimp only at hSw); go_simp; try with_reducible rfl)
          try simp only [Act.put, List.getElem_toArray, List.getElem_cons_zero, List.getElem_cons_succ, List.setIfInBounds_toArray, List.set_cons_zero, List.set_cons_succ]
          refine wpAnyK_take (i := 7) (v := ?_) rfl (by kernel_rfl) (fun _ _ _ h => h) (Or.inl ⟨by rfl, ?_⟩) (by assumption) ?_
          rotate_left
          · (intro w hSw; (try dsimp only at hSw); go_simp; try with_reducible rfl)
          try simp only [Act.put, List.getElem_toArray, List.getElem_cons_zero, List.getElem_cons_succ, List.setIfInBounds_toArray, List.set_cons_zero, List.set_cons_succ]
          refine wpAnyK_step (i := 5) rfl (by kernel_rfl) (fun K hK => ?_)
          go_simp
          with_reducible refine (atp_any B1 a3 n3 cap3 x1 r1 k1 k (by omega) _ HS0.out.c1).mono ?_
          rintro e u3 ⟨rfl, hd⟩
          have HS1 := Lib.hid (HS0.out.call (below_dr (Below.refl _ _) hd))
          clear hd
          rw [hv1]
          refine hK.out _ _ HS1.out.kd.c0 (fun hHeld1 => ?_)
          clear hK K hHeld0
          try simp only [Act.put, List.getElem_toArray, List.getElem_cons_zero, List.getElem_cons_succ, List.setIfInBounds_toArray, List.set_cons_zero, List.set_cons_succ]
          refine wpAnyK_step (i := 8) rfl (by kernel_rfl) (fun K hK => ?_)
          go_simp
          with_reducible refine (atp_any B2 a4 n4 cap4 x2 r2 k2 k (by omega) _ HS1.out.c2).mono ?_
          rintro e u4 ⟨rfl, hd⟩
          have HS2 := Lib.hid (HS1.out.call (below_dr (Below.refl _ _) hd))
          clear hd
          rw [hv2]
          refine hK.out _ _ HS2.out.kd.c0 (fun hHeld2 => ?_)
          clear hK K hHeld1
          try simp only [Act.put, List.getElem_toArray, List.getElem_cons_zero, List.getElem_cons_succ, List.setIfInBounds_toArray, List.set_cons_zero, List.set_cons_succ]
          refine wpAnyK_step (i := 9) rfl (by kernel_rfl) (fun K hK => ?_)
          go_simp
          with_reducible refine (dif_any v1 v2 M1.out M2.out _).mono ?_
          rintro e u5 ⟨rfl, hu5⟩
          subst hu5
          refine hK.out _ _ HS2.out.kd.c0 (fun hHeld3 => ?_)
          clear hK K hHeld2
          try simp only [Act.put, List.getElem_toArray, List.getElem_cons_zero, List.getElem_cons_succ, List.setIfInBounds_toArray, List.set_cons_zero, List.set_cons_succ]
          refine wpAnyK_done (by kernel_rfl) ?_
          simp only [List.drop_succ_cons, List.drop_zero]
          clear hHeld3
          obtain ⟨v, hv⟩ : ∃ v, subI v1 v2 = v := ⟨_, rfl⟩
          rw [hv]
          have HS3 := Lib.hid (HS2.out.step hlt (HVD.out.trans hv))
          obtain ⟨h1, h2⟩ := HS2.out.row.cell k hlt
          clear hv1 hv2 ev hv
          go_wp2_with fail
          go_roundw
          case rel => exact ⟨k + 1, by go_num, by omega, HS3⟩
          case measure => simp [intOf]; omega
        · obtain rfl : k = m := by omega
          have HP := Lib.hid (show GivesSub (eDif x1 r1 k1 x2 r2 k2) L (restG x1 r1 k1 x2 r2 k2 L) w (.returned (.tuple #[curV (some ⟨lb, 0, none⟩) k k L G, .int .i64 0])) (((wk.setCell ⟨w.heap.size + 2, 0, none⟩ (.slice (some ⟨lb, 0, none⟩) k k)).setCell ⟨w.heap.size + 2, 1, none⟩ (.int .i64 L)).setCell ⟨w.heap.size + 2, 2, none⟩ (.int .i64 G)) by
            have hl := HS.out.lb1
            rw [HGE.out]
            exact ⟨lb, k, rfl, below_set3 HS.out.below (by omega) _ _ _, by omega, HM.out.symm, (((HS.out.row.other (by omega) _ _).other (by omega) _ _).other (by omega) _ _).congr fun i hi => if_pos hi⟩)
          obtain ⟨d0, d1, d2, d3, d4, d5⟩ := HS.out.kd
          obtain ⟨c0, c1, c2, f0, f1, f2⟩ := HS.out.res
          have hl := HS.out.lb1
          go_wp2_with fail
          exact bodyPost_ret (v := .tuple #[curV (some ⟨lb, 0, none⟩) k k L G, .int .i64 0]) (by simp [results, Try.results76, go_sem, c0, c1, c2]) rfl HP.out

end Go.Proofs.Ytknimlpdpgpliaa
