/- Rest and Above of the program, by their meaning. By the verifier's side. | The examples of chapter 6, and the difference as the statements reckon it. By the verifier's side. | What is left of curves that are periodic by 24 ticks in the end; the document's sums of them; greater curves. By the verifier's side. -/
import Derived.Test.YtknimlpdpgpliaaLRemA
import Derived.Test.YtknimlpdpgpliaaLCurSCurLCurW
import Derived.Test.YtknimlpdpgpliaaLCurX
import Derived.Test.YtknimlpdpgpliaaLPwSPwU
import Derived.Test.YtknimlpdpgpliaaLRefARefP
import Derived.Test.YtknimlpdpgpliaaLRefV
import Derived.Test.YtknimlpdpgpliaaLR5D
import Derived.Test.YtknimlpdpgpliaaLPwT
namespace Go.Proofs.Ytknimlpdpgpliaa
open Go.RowKit
set_option linter.unusedSimpArgs false
set_option linter.unusedVariables false

theorem flat_good : Good (firsts (fun _ => (0 : Int)) 2) 1 0 := (okC_iff [0, 0] 1 0).1 (by decide)
theorem flat_eC (t : Nat) : eC (firsts (fun _ => (0 : Int)) 2) 1 0 t = some 0 := by
  have hf : ¬ InfC (firsts (fun _ => (0 : Int)) 2) := by rw [infC_iff]; decide
  rw [eC_fin hf]
  congr 1
  induction t with
  | zero => decide
  | succ t ih =>
    by_cases h : t = 0
    · subst h; decide
    · have := flat_good.per hf t (by show 2 - 1 ≤ t; omega)
      omega

set_option maxHeartbeats 400000 in
theorem flat_at (rb : Nat) (ti : Int) (t : Nat) (hti : ti = t) (v : Int) (hv : (0 : Int) = v) (w : World) (hc : w.cell? ⟨rb, 0, none⟩ = some (.int .i64 0)) :
    Calls Try.prog 119 #[.int .i64 ti, .pointer (some ⟨rb, 0, none⟩)] w fun e w' => e = .returned (.int .i64 v) ∧ w = w' := by
  subst hti hv
  rcases Nat.eq_zero_or_pos t with rfl | ht
  · go_enter Try.func119, Try.ntmps119
    go_wp2_with fail
    go_ret
    exact ⟨rfl, rfl⟩
  · have h1 : ((t : Int) == 0) = false := by rw [beq_eq_false_iff_ne]; omega
    have h2 : ¬ t = 0 := by omega
    clear ht
    go_enter Try.func119, Try.ntmps119
    go_wp2_with fail
    go_ret
    exact ⟨rfl, rfl⟩

set_option maxHeartbeats 800000 in
theorem flat_norm (w : World) : Calls Try.prog 72 #[.int .i64 0] w (GivesNorm2 (firsts (fun _ => 0) 2) 1 0 w) := by
  have hmf : ∀ (fn : Fn) (first cap : Array Value) (w : World), (Instr.makeFunc fn first cap).run Try.prog w = .ok (.func fn first cap) w := fun _ _ _ _ => rfl
  have KR := Lib.hid (Cur3.new2 w (.slice none 0 0) (.int .i64 0) (.int .i64 0) 26 (.cells #[.int .i64 0] 3))
  have HB := Lib.hid (((Below.refl _ _).alloc (Nat.le_refl _) (.cells #[.int .i64 0] 3)).alloc (by simp) (.cells #[.slice none 0 0, .int .i64 0, .int .i64 0] 26) : Below w.heap.size w _)
  go_enter Try.func72, Try.ntmps72
  go_wp2_with fail
  refine (fault_ok 0 1073741824 (by omega) (by omega) _).mono ?_
  rintro e w1 ⟨rfl, rfl⟩
  go_wp2_with fail
  have hc : ((w.alloc (.cells #[.int .i64 0] 3)).alloc (.cells #[.slice none 0 0, .int .i64 0, .int .i64 0] 26)).cell? ⟨w.heap.size, 0, none⟩ = some (.int .i64 0) := by go_simp
  have HC := Lib.hid hc
  clear hc
  refine (steady_any 119 w.heap.size (fun _ => 0) (fun t ht => ⟨Int.le_refl _, by omega⟩) 1 (by omega) _ (enters_of Try.func119 (by kernel_rfl) rfl) (fun ti t v w' hti ht hv hb => flat_at w.heap.size ti t hti v hv _ ((hb.cell (lt_of_cell HC.out)).trans HC.out)) 0 (by omega) flat_good).mono ?_
  rintro e w2 ⟨a', n', cap', zs', p', inc', rfl, hb2, hr2, hn2, hx2⟩
  obtain ⟨c0, c1, c2, f0, f1, f2⟩ := KR.out.below hb2
  have hlt3 := KR.out.lt
  have HP := Lib.hid (norm_post2 (b := w.heap.size + 1) (HB.out.trans (hb2.mono HB.out.size)) (Nat.le_succ _) hr2 (fun y hy => by have := hx2 y hy; omega) p' inc' hn2)
  clear hb2 hr2 hn2 hx2 hlt3
  go_wp2_with fail
  exact bodyPost_ret (v := .tuple #[curV a' n' cap' p' inc', .int .i64 0]) (by simp [results, Try.results72, go_sem, c0, c1, c2]) rfl HP.out

theorem flat0 (w : World) : Calls Try.prog 72 #[.int .i64 0] w (GivesOk (fun _ => some 0) w) := by
  refine (flat_norm w).mono ?_
  rintro e v ⟨a, n, cap, zs, p, inc, rfl, hb, hr, hn, hx⟩
  have hf := hn.eform flat_good
  rw [show eC (firsts (fun _ => (0 : Int)) 2) 1 0 = fun _ => some 0 from funext flat_eC] at hf
  exact ⟨a, n, cap, zs, p, inc, rfl, hb, hr, hf, hx⟩


theorem enc_omax {a b : Option Int} (ha : ∀ x, a = some x → x ≤ infV) (hb : ∀ x, b = some x → x ≤ infV) : enc (omax a b) = max (enc a) (enc b) := by
  cases a with
  | none =>
    rw [omax_none_l]
    cases b with
    | none => show infV = max infV infV; omega
    | some y => have := hb y rfl; show infV = max infV y; omega
  | some x =>
    cases b with
    | none => have := ha x rfl; rw [omax_none_r]; show infV = max x infV; omega
    | some y => rfl
theorem enc_rest {zs ys : List Int} {p q : Nat} {inc jnc : Int} (g : Good zs p inc) (k : Good ys q jnc) {j : Nat} (hj : j + 1 ≤ 1000) : encF (eRest zs p inc ys q jnc) (j + 1) = max (encF (eRest zs p inc ys q jnc) j) (encF (eDif zs p inc ys q jnc) (j + 1)) :=
  enc_omax (fun x h => by have := rest_bd g k h; unfold infV; omega) (fun x h => by have := eDif_bd g k h; unfold infV; omega)

theorem dC_val (zs : List Int) (p : Nat) (inc : Int) (ys : List Int) (q : Nat) (jnc : Int) (t : Nat) : dC zs p inc ys q jnc t = (match eC zs p inc t, eC ys q jnc t with | none, none => 0 | none, some _ => 1 | some _, none => -1 | some x, some y => x - y) := by
  unfold dC eC
  by_cases h1 : InfC zs ∧ atC zs p inc t = infV
  · by_cases h2 : InfC ys ∧ atC ys q jnc t = infV
    · simp only [if_pos h1, if_pos h2]
    · simp only [if_pos h1, if_neg h2]
  · by_cases h2 : InfC ys ∧ atC ys q jnc t = infV
    · simp only [if_neg h1, if_pos h2]
    · simp only [if_neg h1, if_neg h2]

/-- What is left of two curves, or the error. -/
theorem boxesR (w : World) (a1 : Option Addr) (n1 cap1 : Nat) (p1 i1 : Int) (a2 : Option Addr) (n2 cap2 : Nat) (p2 i2 : Int) {W : World} (hW : ((w.alloc (.cells #[.slice a1 n1 cap1, .int .i64 p1, .int .i64 i1] 26)).alloc (.cells #[.slice a2 n2 cap2, .int .i64 p2, .int .i64 i2] 26)).alloc (.cells #[.slice none 0 0, .int .i64 0, .int .i64 0] 26) = W) :
    (Below w.heap.size w W ∧ W.heap.size = w.heap.size + 3) ∧ Cur3 W w.heap.size (.slice a1 n1 cap1) (.int .i64 p1) (.int .i64 i1) ∧ Cur3 W (w.heap.size + 1) (.slice a2 n2 cap2) (.int .i64 p2) (.int .i64 i2) ∧ Cur3 W (w.heap.size + 2) (.slice none 0 0) (.int .i64 0) (.int .i64 0) := by
  subst hW
  refine ⟨⟨(((Below.refl _ _).alloc (Nat.le_refl _) _).alloc (by simp) _).alloc (by simp; omega) _, by simp⟩, ((Cur3.new w _ _ _ _).alloc _).alloc _, (Cur3.new2 w _ _ _ _ _).alloc _, ?_⟩
  have := Cur3.new2 (w.alloc (.cells #[.slice a1 n1 cap1, .int .i64 p1, .int .i64 i1] 26)) (.slice none 0 0) (.int .i64 0) (.int .i64 0) 26 (.cells #[.slice a2 n2 cap2, .int .i64 p2, .int .i64 i2] 26)
  simpa using this

/-- While the extremes are taken. -/
structure RL (w : World) (lb m D0 L : Nat) (G : Int) (F : Nat → Int) (u : World) : Prop where
  row : RowF u lb m F
  kd : Cur3 u D0 (.slice (some ⟨lb, 0, none⟩) m m) (.int .i64 L) (.int .i64 G)
  res : Cur3 u (w.heap.size + 2) (.slice none 0 0) (.int .i64 0) (.int .i64 0)
  lb1 : w.heap.size + 2 < lb ∧ lb < D0
  below : Below w.heap.size w u
theorem RL.call {w : World} {lb m D0 L : Nat} {G : Int} {F : Nat → Int} {u v : World} (h : RL w lb m D0 L G F u) (hb : Below u.heap.size u v) : RL w lb m D0 L G F v :=
  ⟨h.row.under hb, h.kd.below hb, h.res.below hb, h.lb1, h.below.trans (hb.mono h.below.size)⟩
theorem RL.set {w : World} {lb m D0 L : Nat} {G : Int} {F F' : Nat → Int} {u : World} (h : RL w lb m D0 L G F u) {k : Nat} (hk : k < m) (v : Int) (hF : ∀ i, i < m → (if i = k then v else F i) = F' i) : RL w lb m D0 L G F' (u.setCell ⟨lb, k, none⟩ (.int .i64 v)) := by
  have hl := h.lb1
  exact ⟨(h.row.set hk v).congr hF, h.kd.other (by omega) _ _, h.res.other (by omega) _ _, h.lb1, h.below.setCell (p := ⟨lb, k, none⟩) (by show w.heap.size ≤ lb; omega) _⟩

set_option maxRecDepth 100000 in
set_option maxHeartbeats 6400000 in
theorem rest_ok (a1 : Option Addr) (n1 cap1 : Nat) (z1 : List Int) (p1 : Nat) (i1 : Int) (g1 : Good z1 p1 i1) (a2 : Option Addr) (n2 cap2 : Nat) (z2 : List Int) (p2 : Nat) (i2 : Int) (g2 : Good z2 p2 i2) (L : Nat) (hL : LcmN z1 p1 i1 z2 p2 i2 L) (hL2 : L ≤ 120) (w : World) (h1 : RowZ w a1 n1 cap1 z1) (h2 : RowZ w a2 n2 cap2 z2) :
    Calls Try.prog 21 #[curV a1 n1 cap1 p1 i1, curV a2 n2 cap2 p2 i2] w (GivesE (eRest z1 p1 i1 z2 p2 i2) w) := by
  have HG := Lib.hid (And.intro g1 g2)
  obtain ⟨y1, q1, j1, y2, q2, j2, hn1, hn2, hq⟩ := hL
  have HN := Lib.hid (And.intro hn1 hn2)
  have GY := Lib.hid (And.intro (hn1.good g1) (hn2.good g2))
  have HLC := Lib.hid (lcm_of (hn1.good g1).p1 (hn2.good g2).p1 hq).mult
  have HQ := Lib.hid hq
  have HEQ := Lib.hid (And.intro (hn1.eform g1).2.1 (hn2.eform g2).2.1)
  have HED := Lib.hid (show eDif y1 q1 j1 y2 q2 j2 = eDif z1 p1 i1 z2 p2 i2 from funext fun t => by unfold eDif; rw [(hn1.eform g1).2.1 t, (hn2.eform g2).2.1 t])
  have hL1 := HLC.out.one
  obtain ⟨W, hW⟩ : ∃ W, ((w.alloc (.cells #[.slice a1 n1 cap1, .int .i64 p1, .int .i64 i1] 26)).alloc (.cells #[.slice a2 n2 cap2, .int .i64 p2, .int .i64 i2] 26)).alloc (.cells #[.slice none 0 0, .int .i64 0, .int .i64 0] 26) = W := ⟨_, rfl⟩
  obtain ⟨⟨hB, hWs⟩, k1, k2, kr⟩ := boxesR w a1 n1 cap1 p1 i1 a2 n2 cap2 p2 i2 hW
  have HB := Lib.hid hB
  have KR := Lib.hid kr
  have K12 := Lib.hid (And.intro k1 k2)
  have HR := Lib.hid (And.intro (h1.under hB) (h2.under hB))
  have HWS := Lib.hid hWs
  have hW1 := hW
  obtain ⟨m0, m1, m2, m3, m4, m5⟩ := k1
  obtain ⟨u0, u1, u2, u3, u4, u5⟩ := k2
  clear h1 h2 hB kr hW hWs g1 g2 hn1 hn2 hq
  go_enter Try.func21, Try.ntmps21
  go_wp2_with fail
  try rw [hW1]
  clear hW1 m0 m1 m2 m3 m4 m5 u0 u1 u2 u3 u4 u5
  refine (msub_ok a1 n1 cap1 z1 p1 i1 HG.out.1 a2 n2 cap2 z2 p2 i2 HG.out.2 HN.out.1 HN.out.2 L HQ.out hL2 _ HR.out.1 HR.out.2).mono ?_
  rintro e v1 ⟨lb, m, rfl, hb, hlb, hm, hrow⟩
  obtain ⟨G, hG⟩ : ∃ G, restG y1 q1 j1 y2 q2 j2 L = G := ⟨_, rfl⟩
  have HGE := Lib.hid hG
  have hG0 : 0 ≤ G ∧ G ≤ 1125899906842624 := by have := restG_low GY.out.1 GY.out.2 hL2; rw [hG] at this; omega
  rw [hG]
  obtain ⟨W2, hw⟩ : ∃ W2, v1.alloc (.cells #[.slice (some ⟨lb, 0, none⟩) m m, .int .i64 L, .int .i64 G] 82) = W2 := ⟨_, rfl⟩
  have hz : Below v1.heap.size v1 W2 := by rw [← hw]; exact (Below.refl _ _).alloc (Nat.le_refl _) _
  have hWz : Below W.heap.size W W2 := hb.trans (hz.mono hb.size)
  have HR2 := Lib.hid (And.intro (HR.out.1.under hWz) (HR.out.2.under hWz))
  have K2 := Lib.hid (And.intro (K12.out.1.below hWz) (K12.out.2.below hWz))
  obtain ⟨D0, hD0⟩ : ∃ D, v1.heap.size = D := ⟨_, rfl⟩
  have L0 := Lib.hid (show RL w lb m D0 L G (encF (eDif y1 q1 j1 y2 q2 j2)) W2 by
    have h1 := HWS.out
    have h2 := hrow.lt
    exact ⟨hrow.under hz, by rw [← hw, ← hD0]; exact Cur3.new v1 _ _ _ _, KR.out.below hWz, ⟨by omega, by omega⟩, HB.out.trans (hWz.mono HB.out.size)⟩)
  have HM := Lib.hid hm
  have hm1000 : m ≤ 1000 := by omega
  have hm2 : 2 ≤ m := by omega
  obtain ⟨hGl, hGu⟩ := hG0
  have hw1 := hw
  obtain ⟨c0, c1, c2, c3, c4, c5⟩ := L0.out.kd
  clear hb hlb hm hrow hG hw hz hWz
  have HEE := Lib.hid (show (eRest y1 q1 j1 y2 q2 j2) = eRest z1 p1 i1 z2 p2 i2 by unfold eRest; rw [HED.out])
  have HSE := Lib.hid (show Sett (encF (eRest y1 q1 j1 y2 q2 j2)) L G ∧ Tame (eRest y1 q1 j1 y2 q2 j2) ∧ ∀ t, t ≤ 1000 → Mid (encF (eRest y1 q1 j1 y2 q2 j2) t) by rw [← HGE.out]; exact ⟨rest_sett GY.out.1 GY.out.2 HLC.out, rest_tame GY.out.1 GY.out.2, fun t ht => rest_mid GY.out.1 GY.out.2 ht⟩)
  go_wp2_with fail
  try rw [hw1]
  clear hw1 c0 c1 c2 c3 c4 c5
  have LL0 := Lib.hid (show RL w lb m D0 L G (fun i => if i < 1 then encF (eRest y1 q1 j1 y2 q2 j2) i else encF (eDif y1 q1 j1 y2 q2 j2) i) W2 from ⟨L0.out.row.congr fun i hi => by
    by_cases h : i < 1
    · rw [if_pos h]; obtain rfl : i = 0 := by omega
      rfl
    · rw [if_neg h], L0.out.kd, L0.out.res, L0.out.lb1, L0.out.below⟩)
  clear L0
  go_loopw [9] (fun s9 wx => ∃ k : Nat, s9 = .int .i64 k ∧ 1 ≤ k ∧ k ≤ m ∧ Hid (RL w lb m D0 L G (fun i => if i < k then encF (eRest y1 q1 j1 y2 q2 j2) i else encF (eDif y1 q1 j1 y2 q2 j2) i) wx)) (fun s9 _ => m - (intOf s9).toNat)
  case atStart => exact ⟨1, by go_num, by omega, by omega, LL0⟩
  case round =>
    obtain ⟨k, rfl, hk1, hk, HS⟩ := hrel
    obtain ⟨wk, rfl⟩ : ∃ u : World, u = wr := ⟨_, rfl⟩
    by_cases hlt : k < m
    · obtain ⟨j, rfl⟩ : ∃ j, k = j + 1 := ⟨k - 1, by omega⟩
      have hj1 : ((j : Int) + 1) < (m : Int) := by omega
      have hj2 : (j : Int) < (m : Int) := by omega
      have hj3 : (j : Int) + 1 - 1 = (j : Int) := by omega
      have hj4 : IntKind.i64.wrap ((j : Int) + 1 - 1) = (j : Int) := by rw [hj3]; exact IntWalk.i64_in _ ⟨by omega, by omega⟩
      have hj5 : ((j : Int) + 1).toNat = j + 1 := by omega
      have hj7 : IntKind.i64.wrap (j : Int) = (j : Int) := IntWalk.i64_in _ ⟨by omega, by omega⟩
      have hj8 : IntKind.i64.wrap ((j : Int) + 1) = (j : Int) + 1 := IntWalk.i64_in _ ⟨by omega, by omega⟩
      have hj6 : (0 : Int) ≤ (j : Int) + 1 := by omega
      have HS1 := Lib.hid (HS.out.call (Below.refl _ _).drew)
      obtain ⟨x, hx⟩ : ∃ x, encF (eRest y1 q1 j1 y2 q2 j2) j = x := ⟨_, rfl⟩
      obtain ⟨y, hy⟩ : ∃ y, encF (eDif y1 q1 j1 y2 q2 j2) (j + 1) = y := ⟨_, rfl⟩
      obtain ⟨v, hv⟩ : ∃ v, encF (eRest y1 q1 j1 y2 q2 j2) (j + 1) = v := ⟨_, rfl⟩
      have hvm : v = max x y := by rw [← hx, ← hy, ← hv]; exact enc_rest GY.out.1 GY.out.2 (by omega)
      have O8 := Lib.hid (show (wk.drew.cell? ⟨lb, j, none⟩ = some (.int .i64 x) ∧ wk.drew.cell? ⟨lb, j + 1, none⟩ = some (.int .i64 y)) from ⟨by
        have h := (HS1.out.row.cell j (by omega)).1
        rw [if_pos (Nat.lt_succ_self _), hx] at h; exact h, by
        have h := (HS1.out.row.cell (j + 1) (by omega)).1
        rw [if_neg (Nat.lt_irrefl _), hy] at h; exact h⟩)
      have HSN := Lib.hid (HS1.out.set (k := j + 1) hlt v (F' := fun i => if i < j + 1 + 1 then encF (eRest y1 q1 j1 y2 q2 j2) i else encF (eDif y1 q1 j1 y2 q2 j2) i) (fun i hi => by
        by_cases e : i = j + 1
        · subst e; rw [if_pos rfl, if_pos (by omega)]; exact hv.symm
        · rw [if_neg e]
          by_cases e2 : i < j + 1
          · rw [if_pos e2, if_pos (by omega)]
          · rw [if_neg e2, if_neg (by omega)]))
      clear hx hy hv
      go_upto_region 8 with fail
      by_cases hxy : x < y
      · obtain rfl : y = v := by omega
        clear hvm
        refine wp_region_keeps (fun u => (u.cell? ⟨lb, j, none⟩ = some (.int .i64 x) ∧ u.cell? ⟨lb, j + 1, none⟩ = some (.int .i64 y))) 12 2 (by kernel_rfl) (by kernel_rfl) O8.out (fun hHeld0 => ?_)
        refine wpAnyK_take (i := 0) (v := ?_) rfl (by kernel_rfl) (fun _ _ _ h => h) (Or.inl ⟨by rfl, ?_⟩) (by assumption) ?_
        rotate_left
        · (intro w hSw; (try dsimp only at hSw); go_simp; try with_reducible rfl)
        try simp only [Act.put, List.getElem_toArray, List.getElem_cons_zero, List.getElem_cons_succ, List.setIfInBounds_toArray, List.set_cons_zero, List.set_cons_succ]
        refine wpAnyK_take (i := 1) (v := ?_) rfl (by kernel_rfl) (fun _ _ _ h => h) (Or.inl ⟨by rfl, ?_⟩) (by assumption) ?_
        rotate_left
        · (intro w hSw; (try dsimp only at hSw); go_simp; try with_reducible rfl)
        try simp only [Act.put, List.getElem_toArray, List.getElem_cons_zero, List.getElem_cons_succ, List.setIfInBounds_toArray, List.set_cons_zero, List.set_cons_succ]
        refine wpAnyK_take (i := 2) (v := ?_) rfl (by kernel_rfl) (fun _ _ _ h => h) (Or.inl ⟨by rfl, ?_⟩) (by assumption) ?_
        rotate_left
        · (intro w hSw; (try dsimp only at hSw); go_simp; try with_reducible rfl)
        try simp only [Act.put, List.getElem_toArray, List.getElem_cons_zero, List.getElem_cons_succ, List.setIfInBounds_toArray, List.set_cons_zero, List.set_cons_succ]
        refine wpAnyK_take (i := 3) (v := ?_) rfl (by kernel_rfl) (fun _ _ _ h => h) (Or.inl ⟨by rfl, ?_⟩) (by assumption) ?_
        rotate_left
        · (intro w hSw; (try dsimp only at hSw); go_simp; try with_reducible rfl)
        try simp only [Act.put, List.getElem_toArray, List.getElem_cons_zero, List.getElem_cons_succ, List.setIfInBounds_toArray, List.set_cons_zero, List.set_cons_succ]
        refine wpAnyK_take (i := 4) (v := ?_) rfl (by kernel_rfl) (fun _ _ _ h => h) (Or.inl ⟨by rfl, ?_⟩) (by assumption) ?_
        rotate_left
        · (intro w hSw; (try dsimp only at hSw); go_simp; try with_reducible rfl)
        try simp only [Act.put, List.getElem_toArray, List.getElem_cons_zero, List.getElem_cons_succ, List.setIfInBounds_toArray, List.set_cons_zero, List.set_cons_succ]
        refine wpAnyK_take (i := 5) (v := ?_) rfl (by kernel_rfl) (fun _ _ _ h => h) (Or.inl ⟨by rfl, ?_⟩) (by assumption) ?_
        rotate_left
        · (intro w hSw; (try dsimp only at hSw); go_simp; try with_reducible rfl)
        try simp only [Act.put, List.getElem_toArray, List.getElem_cons_zero, List.getElem_cons_succ, List.setIfInBounds_toArray, List.set_cons_zero, List.set_cons_succ]
        refine wpAnyK_take (i := 6) (v := ?_) rfl (by kernel_rfl) (fun _ _ _ h => h) (Or.inl ⟨by rfl, ?_⟩) (by assumption) ?_
        rotate_left
        · (intro w hSw; (try dsimp only at hSw); go_simp; try with_reducible rfl)
        try simp only [Act.put, List.getElem_toArray, List.getElem_cons_zero, List.getElem_cons_succ, List.setIfInBounds_toArray, List.set_cons_zero, List.set_cons_succ]
        refine wpAnyK_take (i := 7) (v := ?_) rfl (by kernel_rfl) (fun _ _ _ h => h) (Or.inl ⟨by rfl, ?_⟩) (by assumption) ?_
        rotate_left
        · (intro w hSw; (try dsimp only at hSw); go_simp; try with_reducible rfl)
        try simp only [Act.put, List.getElem_toArray, List.getElem_cons_zero, List.getElem_cons_succ, List.setIfInBounds_toArray, List.set_cons_zero, List.set_cons_succ]
        refine wpAnyK_take (i := 8) (v := ?_) rfl (by kernel_rfl) (fun _ _ _ h => h) (Or.inl ⟨by rfl, ?_⟩) (by assumption) ?_
        rotate_left
        · (intro w hSw; (try dsimp only at hSw); go_simp; try with_reducible rfl)
        try simp only [Act.put, List.getElem_toArray, List.getElem_cons_zero, List.getElem_cons_succ, List.setIfInBounds_toArray, List.set_cons_zero, List.set_cons_succ]
        refine wpAnyK_take (i := 9) (v := ?_) rfl (by kernel_rfl) (fun _ _ _ h => h) (Or.inl ⟨by rfl, ?_⟩) (by assumption) ?_
        rotate_left
        · (intro w hSw; (try dsimp only at hSw); go_simp; try with_reducible rfl)
        try simp only [Act.put, List.getElem_toArray, List.getElem_cons_zero, List.getElem_cons_succ, List.setIfInBounds_toArray, List.set_cons_zero, List.set_cons_succ]
        refine wpAnyK_take (i := 10) (v := ?_) rfl (by kernel_rfl) (fun _ _ _ h => h) (Or.inl ⟨by rfl, ?_⟩) (by assumption) ?_
        rotate_left
        · (intro w hSw; (try dsimp only at hSw); go_simp; try with_reducible rfl)
        try simp only [Act.put, List.getElem_toArray, List.getElem_cons_zero, List.getElem_cons_succ, List.setIfInBounds_toArray, List.set_cons_zero, List.set_cons_succ]
        refine wpAnyK_take (i := 11) (v := ?_) rfl (by kernel_rfl) (fun _ _ _ h => h) (Or.inl ⟨by rfl, ?_⟩) (by assumption) ?_
        rotate_left
        · (intro w hSw; (try dsimp only at hSw); go_simp; try with_reducible rfl)
        try simp only [Act.put, List.getElem_toArray, List.getElem_cons_zero, List.getElem_cons_succ, List.setIfInBounds_toArray, List.set_cons_zero, List.set_cons_succ]
        refine wpAnyK_done (by kernel_rfl) ?_
        simp only [List.drop_succ_cons, List.drop_zero]
        clear hHeld0
        obtain ⟨b0, b1⟩ := HS1.out.row.cell (j + 1) (by omega)
        go_wp2_with fail
        go_roundw
        case rel => exact ⟨j + 1 + 1, by go_num, by omega, by omega, HSN⟩
        case measure => simp [intOf] <;> omega
      · obtain rfl : x = v := by omega
        clear hvm
        refine wp_region_keeps (fun u => (u.cell? ⟨lb, j, none⟩ = some (.int .i64 x) ∧ u.cell? ⟨lb, j + 1, none⟩ = some (.int .i64 y))) 12 2 (by kernel_rfl) (by kernel_rfl) O8.out (fun hHeld0 => ?_)
        refine wpAnyK_take (i := 0) (v := ?_) rfl (by kernel_rfl) (fun _ _ _ h => h) (Or.inl ⟨by rfl, ?_⟩) (by assumption) ?_
        rotate_left
        · (intro w hSw; (try dsimp only at hSw); go_simp; try with_reducible rfl)
        try simp only [Act.put, List.getElem_toArray, List.getElem_cons_zero, List.getElem_cons_succ, List.setIfInBounds_toArray, List.set_cons_zero, List.set_cons_succ]
        refine wpAnyK_take (i := 1) (v := ?_) rfl (by kernel_rfl) (fun _ _ _ h => h) (Or.inl ⟨by rfl, ?_⟩) (by assumption) ?_
        rotate_left
        · (intro w hSw; (try dsimp only at hSw); go_simp; try with_reducible rfl)
        try simp only [Act.put, List.getElem_toArray, List.getElem_cons_zero, List.getElem_cons_succ, List.setIfInBounds_toArray, List.set_cons_zero, List.set_cons_succ]
        refine wpAnyK_take (i := 2) (v := ?_) rfl (by kernel_rfl) (fun _ _ _ h => h) (Or.inl ⟨by rfl, ?_⟩) (by assumption) ?_
        rotate_left
        · (intro w hSw; (try dsimp only at hSw); go_simp; try with_reducible rfl)
        try simp only [Act.put, List.getElem_toArray, List.getElem_cons_zero, List.getElem_cons_succ, List.setIfInBounds_toArray, List.set_cons_zero, List.set_cons_succ]
        refine wpAnyK_take (i := 3) (v := ?_) rfl (by kernel_rfl) (fun _ _ _ h => h) (Or.inl ⟨by rfl, ?_⟩) (by assumption) ?_
        rotate_left
        · (intro w hSw; (try dsimp only at hSw); go_simp; try with_reducible rfl)
        try simp only [Act.put, List.getElem_toArray, List.getElem_cons_zero, List.getElem_cons_succ, List.setIfInBounds_toArray, List.set_cons_zero, List.set_cons_succ]
        refine wpAnyK_take (i := 4) (v := ?_) rfl (by kernel_rfl) (fun _ _ _ h => h) (Or.inl ⟨by rfl, ?_⟩) (by assumption) ?_
        rotate_left
        · (intro w hSw; (try dsimp only at hSw); go_simp; try with_reducible rfl)
        try simp only [Act.put, List.getElem_toArray, List.getElem_cons_zero, List.getElem_cons_succ, List.setIfInBounds_toArray, List.set_cons_zero, List.set_cons_succ]
        refine wpAnyK_take (i := 5) (v := ?_) rfl (by kernel_rfl) (fun _ _ _ h => h) (Or.inl ⟨by rfl, ?_⟩) (by assumption) ?_
        rotate_left
        · (intro w hSw; (try dsimp only at hSw); go_simp; try with_reducible rfl)
        try simp only [Act.put, List.getElem_toArray, List.getElem_cons_zero, List.getElem_cons_succ, List.setIfInBounds_toArray, List.set_cons_zero, List.set_cons_succ]
        refine wpAnyK_take (i := 6) (v := ?_) rfl (by kernel_rfl) (fun _ _ _ h => h) (Or.inl ⟨by rfl, ?_⟩) (by assumption) ?_
        rotate_left
        · (intro w hSw; (try dsimp only at hSw); go_simp; try with_reducible rfl)
        try simp only [Act.put, List.getElem_toArray, List.getElem_cons_zero, List.getElem_cons_succ, List.setIfInBounds_toArray, List.set_cons_zero, List.set_cons_succ]
        refine wpAnyK_take (i := 7) (v := ?_) rfl (by kernel_rfl) (fun _ _ _ h => h) (Or.inl ⟨by rfl, ?_⟩) (by assumption) ?_
        rotate_left
        · (intro w hSw; (try dsimp only at hSw); go_simp; try with_reducible rfl)
        try simp only [Act.put, List.getElem_toArray, List.getElem_cons_zero, List.getElem_cons_succ, List.setIfInBounds_toArray, List.set_cons_zero, List.set_cons_succ]
        refine wpAnyK_take (i := 8) (v := ?_) rfl (by kernel_rfl) (fun _ _ _ h => h) (Or.inl ⟨by rfl, ?_⟩) (by assumption) ?_
        rotate_left
        · (intro w hSw; (try dsimp only at hSw); go_simp; try with_reducible rfl)
        try simp only [Act.put, List.getElem_toArray, List.getElem_cons_zero, List.getElem_cons_succ, List.setIfInBounds_toArray, List.set_cons_zero, List.set_cons_succ]
        refine wpAnyK_take (i := 9) (v := ?_) rfl (by kernel_rfl) (fun _ _ _ h => h) (Or.inl ⟨by rfl, ?_⟩) (by assumption) ?_
        rotate_left
        · (intro w hSw; (try dsimp only at hSw); go_simp; try with_reducible rfl)
        try simp only [Act.put, List.getElem_toArray, List.getElem_cons_zero, List.getElem_cons_succ, List.setIfInBounds_toArray, List.set_cons_zero, List.set_cons_succ]
        refine wpAnyK_take (i := 10) (v := ?_) rfl (by kernel_rfl) (fun _ _ _ h => h) (Or.inl ⟨by rfl, ?_⟩) (by assumption) ?_
        rotate_left
        · (intro w hSw; (try dsimp only at hSw); go_simp; try with_reducible rfl)
        try simp only [Act.put, List.getElem_toArray, List.getElem_cons_zero, List.getElem_cons_succ, List.setIfInBounds_toArray, List.set_cons_zero, List.set_cons_succ]
        refine wpAnyK_take (i := 11) (v := ?_) rfl (by kernel_rfl) (fun _ _ _ h => h) (Or.inl ⟨by rfl, ?_⟩) (by assumption) ?_
        rotate_left
        · (intro w hSw; (try dsimp only at hSw); go_simp; try with_reducible rfl)
        try simp only [Act.put, List.getElem_toArray, List.getElem_cons_zero, List.getElem_cons_succ, List.setIfInBounds_toArray, List.set_cons_zero, List.set_cons_succ]
        refine wpAnyK_done (by kernel_rfl) ?_
        simp only [List.drop_succ_cons, List.drop_zero]
        clear hHeld0
        obtain ⟨b0, b1⟩ := HS1.out.row.cell (j + 1) (by omega)
        go_wp2_with fail
        go_roundw
        case rel => exact ⟨j + 1 + 1, by go_num, by omega, by omega, HSN⟩
        case measure => simp [intOf] <;> omega
    · obtain rfl : k = m := by omega
      have HFE := Lib.hid (show ∀ t, t < 400 + 2 * L → (fun i => if i < k then encF (eRest y1 q1 j1 y2 q2 j2) i else encF (eDif y1 q1 j1 y2 q2 j2) i) t = encF (eRest y1 q1 j1 y2 q2 j2) t from fun t ht => if_pos (by have := HM.out; omega))
      have HFM := Lib.hid (show ∀ t, t < k → Mid ((fun i => if i < k then encF (eRest y1 q1 j1 y2 q2 j2) i else encF (eDif y1 q1 j1 y2 q2 j2) i) t) from fun t ht => by
        show Mid (if t < k then _ else _)
        rw [if_pos ht]; exact rest_mid GY.out.1 GY.out.2 (by omega))
      have HGG := HGE.out
      have HFL := Lib.hid (show ∀ t, t < 400 + 2 * L → (fun i => if i < k then encF (eRest y1 q1 j1 y2 q2 j2) i else encF (eDif y1 q1 j1 y2 q2 j2) i) t = encF (eRest y1 q1 j1 y2 q2 j2) t from HFE.out)
      obtain ⟨c0, c1, c2, c3, c4, c5⟩ := HS.out.kd
      go_wp2_with fail
      with_reducible refine (dcurve_any lb k L G (eRest y1 q1 j1 y2 q2 j2) hL1 hL2 HM.out ⟨hGl, hGu⟩ HSE.out.1 HSE.out.2.1 HSE.out.2.2 (fun i => if i < k then encF (eRest y1 q1 j1 y2 q2 j2) i else encF (eDif y1 q1 j1 y2 q2 j2) i) HFL.out HFM.out _ HS.out.row).mono ?_
      rintro e v9 ⟨hb, ⟨a9, n9, cap9, z9, p9, i9, rfl, hr, hf, hx⟩ | ⟨rfl, hno⟩⟩
      · have HP := Lib.hid (GivesE.post (E := (eRest z1 p1 i1 z2 p2 i2)) (b := w.heap.size + 2) HS.out.below (by omega) HS.out.res.lt hb hr hx (show EForm z9 p9 i9 (eRest z1 p1 i1 z2 p2 i2) by rw [← HEE.out]; exact hf))
        obtain ⟨r0, r1, r2, r3, r4, r5⟩ := HS.out.res.below hb
        clear hb hr hf hx
        go_wp2_with fail
        exact bodyPost_ret (v := .tuple #[curV a9 n9 cap9 p9 i9, .int .i64 0]) (by simp [results, Try.results21, go_sem, r0, r1, r2]) rfl HP.out
      · have HP := Lib.hid (GivesE.postNo (E := (eRest z1 p1 i1 z2 p2 i2)) (b := w.heap.size + 2) HS.out.below (by omega) hb (show ¬ ECan (eRest z1 p1 i1 z2 p2 i2) by rw [← HEE.out]; exact hno))
        obtain ⟨r0, r1, r2, r3, r4, r5⟩ := HS.out.res.below hb
        clear hb hno
        go_wp2_with fail
        exact bodyPost_ret (v := .tuple #[curV none 0 0 0 0, .int .i64 3]) (by simp [results, Try.results21, go_sem, r0, r1, r2]) rfl HP.out
set_option maxRecDepth 100000 in
set_option maxHeartbeats 6400000 in
theorem above_ok (a1 : Option Addr) (n1 cap1 : Nat) (z1 : List Int) (p1 : Nat) (i1 : Int) (g1 : Good z1 p1 i1) (a2 : Option Addr) (n2 cap2 : Nat) (z2 : List Int) (p2 : Nat) (i2 : Int) (g2 : Good z2 p2 i2) (L : Nat) (hL : LcmN z1 p1 i1 z2 p2 i2 L) (hL2 : L ≤ 120) (w : World) (h1 : RowZ w a1 n1 cap1 z1) (h2 : RowZ w a2 n2 cap2 z2) :
    Calls Try.prog 22 #[curV a1 n1 cap1 p1 i1, curV a2 n2 cap2 p2 i2] w (GivesE (eAbove z1 p1 i1 z2 p2 i2) w) := by
  have HG := Lib.hid (And.intro g1 g2)
  obtain ⟨y1, q1, j1, y2, q2, j2, hn1, hn2, hq⟩ := hL
  have HN := Lib.hid (And.intro hn1 hn2)
  have GY := Lib.hid (And.intro (hn1.good g1) (hn2.good g2))
  have HLC := Lib.hid (lcm_of (hn1.good g1).p1 (hn2.good g2).p1 hq).mult
  have HQ := Lib.hid hq
  have HEQ := Lib.hid (And.intro (hn1.eform g1).2.1 (hn2.eform g2).2.1)
  have HED := Lib.hid (show eDif y1 q1 j1 y2 q2 j2 = eDif z1 p1 i1 z2 p2 i2 from funext fun t => by unfold eDif; rw [(hn1.eform g1).2.1 t, (hn2.eform g2).2.1 t])
  have hL1 := HLC.out.one
  obtain ⟨W, hW⟩ : ∃ W, ((w.alloc (.cells #[.slice a1 n1 cap1, .int .i64 p1, .int .i64 i1] 26)).alloc (.cells #[.slice a2 n2 cap2, .int .i64 p2, .int .i64 i2] 26)).alloc (.cells #[.slice none 0 0, .int .i64 0, .int .i64 0] 26) = W := ⟨_, rfl⟩
  obtain ⟨⟨hB, hWs⟩, k1, k2, kr⟩ := boxesR w a1 n1 cap1 p1 i1 a2 n2 cap2 p2 i2 hW
  have HB := Lib.hid hB
  have KR := Lib.hid kr
  have K12 := Lib.hid (And.intro k1 k2)
  have HR := Lib.hid (And.intro (h1.under hB) (h2.under hB))
  have HWS := Lib.hid hWs
  have hW1 := hW
  obtain ⟨m0, m1, m2, m3, m4, m5⟩ := k1
  obtain ⟨u0, u1, u2, u3, u4, u5⟩ := k2
  clear h1 h2 hB kr hW hWs g1 g2 hn1 hn2 hq
  go_enter Try.func22, Try.ntmps22
  go_wp2_with fail
  try rw [hW1]
  clear hW1 m0 m1 m2 m3 m4 m5 u0 u1 u2 u3 u4 u5
  refine (msub_ok a1 n1 cap1 z1 p1 i1 HG.out.1 a2 n2 cap2 z2 p2 i2 HG.out.2 HN.out.1 HN.out.2 L HQ.out hL2 _ HR.out.1 HR.out.2).mono ?_
  rintro e v1 ⟨lb, m, rfl, hb, hlb, hm, hrow⟩
  obtain ⟨G, hG⟩ : ∃ G, restG y1 q1 j1 y2 q2 j2 L = G := ⟨_, rfl⟩
  have HGE := Lib.hid hG
  have hG0 : 0 ≤ G ∧ G ≤ 1125899906842624 := by have := restG_low GY.out.1 GY.out.2 hL2; rw [hG] at this; omega
  rw [hG]
  obtain ⟨W2, hw⟩ : ∃ W2, v1.alloc (.cells #[.slice (some ⟨lb, 0, none⟩) m m, .int .i64 L, .int .i64 G] 82) = W2 := ⟨_, rfl⟩
  have hz : Below v1.heap.size v1 W2 := by rw [← hw]; exact (Below.refl _ _).alloc (Nat.le_refl _) _
  have hWz : Below W.heap.size W W2 := hb.trans (hz.mono hb.size)
  have HR2 := Lib.hid (And.intro (HR.out.1.under hWz) (HR.out.2.under hWz))
  have K2 := Lib.hid (And.intro (K12.out.1.below hWz) (K12.out.2.below hWz))
  obtain ⟨D0, hD0⟩ : ∃ D, v1.heap.size = D := ⟨_, rfl⟩
  have L0 := Lib.hid (show RL w lb m D0 L G (encF (eDif y1 q1 j1 y2 q2 j2)) W2 by
    have h1 := HWS.out
    have h2 := hrow.lt
    exact ⟨hrow.under hz, by rw [← hw, ← hD0]; exact Cur3.new v1 _ _ _ _, KR.out.below hWz, ⟨by omega, by omega⟩, HB.out.trans (hWz.mono HB.out.size)⟩)
  have HM := Lib.hid hm
  have hm1000 : m ≤ 1000 := by omega
  have hm2 : 2 ≤ m := by omega
  obtain ⟨hGl, hGu⟩ := hG0
  have hw1 := hw
  obtain ⟨c0, c1, c2, c3, c4, c5⟩ := L0.out.kd
  clear hb hlb hm hrow hG hw hz hWz
  have HEE := Lib.hid (show (eAbove y1 q1 j1 y2 q2 j2) = eAbove z1 p1 i1 z2 p2 i2 by unfold eAbove; rw [HED.out])
  obtain ⟨st, sok, hset⟩ := setP_ex (dC z1 p1 i1 z2 p2 i2)
  have HSET := Lib.hid hset
  have HDC := Lib.hid (show dC y1 q1 j1 y2 q2 j2 = dC z1 p1 i1 z2 p2 i2 from funext fun t => by
    rw [dC_val, dC_val, HEQ.out.1 t, HEQ.out.2 t])
  obtain ⟨m0, m1, m2', m3, m4, m5⟩ := K2.out.1
  obtain ⟨u0, u1, u2, u3, u4, u5⟩ := K2.out.2
  clear hset
  go_wp2_with fail
  try rw [hw1]
  clear hw1 c0 c1 c2 c3 c4 c5 m0 m1 m2' m3 m4 m5 u0 u1 u2 u3 u4 u5
  refine (settles_ok a1 n1 cap1 z1 p1 i1 HG.out.1 a2 n2 cap2 z2 p2 i2 HG.out.2 st sok _ HR2.out.1 HR2.out.2 HSET.out).mono ?_
  rintro e v5 ⟨rfl, hb⟩
  have L1 := Lib.hid (L0.out.call hb)
  clear hb L0
  cases sok with
  | true =>
    have HZ := Lib.hid (show (fun _ => some 0) = eAbove z1 p1 i1 z2 p2 i2 by
      rcases HSET.out with ⟨_, T, _, hT, _⟩ | ⟨h, _⟩
      · exact (above_settled HG.out.1 HG.out.2 ⟨T, hT⟩).symm
      · cases h)
    clear HSET
    go_wp2_with fail
    refine (flat0 _).mono ?_
    rintro e v9 ⟨a9, n9, cap9, z9, p9, i9, rfl, hb, hr, hf, hx⟩
    have HP := Lib.hid (GivesE.post (E := eAbove z1 p1 i1 z2 p2 i2) (b := w.heap.size + 2) L1.out.below (by omega) L1.out.res.lt hb hr hx (show EForm z9 p9 i9 (eAbove z1 p1 i1 z2 p2 i2) by rw [← HZ.out]; exact hf))
    obtain ⟨r0, r1, r2, r3, r4, r5⟩ := L1.out.res.below hb
    clear hb hr hf hx
    go_wp2_with fail
    exact bodyPost_ret (v := .tuple #[curV a9 n9 cap9 p9 i9, .int .i64 0]) (by simp [results, Try.results22, go_sem, r0, r1, r2]) rfl HP.out
  | false =>
    have HST := Lib.hid (show Still y1 q1 j1 y2 q2 j2 L from (still_of GY.out.1 GY.out.2 HLC.out (by
      rw [HDC.out]
      rcases HSET.out with ⟨h, _⟩ | ⟨_, _, h⟩
      · cases h
      · exact h)).2)
    have HSE := Lib.hid (show Sett (encF (eAbove y1 q1 j1 y2 q2 j2)) L G ∧ Tame (eAbove y1 q1 j1 y2 q2 j2) ∧ ∀ t, t ≤ 1000 → Mid (encF (eAbove y1 q1 j1 y2 q2 j2) t) by rw [← HGE.out]; exact ⟨above_sett GY.out.1 GY.out.2 HLC.out HST.out, above_tame GY.out.1 GY.out.2, fun t ht => above_mid GY.out.1 GY.out.2 ht⟩)
    clear HSET
    have hm3 : (m : Int) - 2 = ((m - 1 : Nat) : Int) - 1 := by omega
    have hmw3 : IntKind.i64.wrap ((m : Int) - 2) = (m : Int) - 2 := IntWalk.i64_in _ ⟨by omega, by omega⟩
    obtain ⟨c0, c1, c2, c3, c4, c5⟩ := L1.out.kd
    go_wp2_with fail
    clear c0 c1 c2 c3 c4 c5
    have LL0 := Lib.hid (show RL w lb m D0 L G (fun i => if (m - 1) ≤ i then minK (encF (eDif y1 q1 j1 y2 q2 j2)) (m - 1 - i) i else encF (eDif y1 q1 j1 y2 q2 j2) i) v5 from ⟨L1.out.row.congr fun i hi => by
      by_cases h : m - 1 ≤ i
      · rw [if_pos h]; obtain rfl : i = m - 1 := by omega
        rw [Nat.sub_self]; rfl
      · rw [if_neg h], L1.out.kd, L1.out.res, L1.out.lb1, L1.out.below⟩)
    clear L1
    go_loopw [12] (fun s12 wx => ∃ k : Nat, s12 = .int .i64 ((k : Int) - 1) ∧ k ≤ m - 1 ∧ Hid (RL w lb m D0 L G (fun i => if k ≤ i then minK (encF (eDif y1 q1 j1 y2 q2 j2)) (m - 1 - i) i else encF (eDif y1 q1 j1 y2 q2 j2) i) wx)) (fun s12 _ => (intOf s12 + 1).toNat)
    case atStart => exact ⟨m - 1, by rw [← hm3], by omega, LL0⟩
    case round =>
      obtain ⟨k, rfl, hk, HS⟩ := hrel
      obtain ⟨wk, rfl⟩ : ∃ u : World, u = wr := ⟨_, rfl⟩
      by_cases hlt : 0 < k
      · obtain ⟨j, rfl⟩ : ∃ j, k = j + 1 := ⟨k - 1, by omega⟩
        have hj0 : ((j + 1 : Nat) : Int) - 1 = (j : Int) := by omega
        rw [hj0]
        have hj1 : ((j : Int) + 1) < (m : Int) := by omega
        have hj2 : (j : Int) < (m : Int) := by omega
        have hj3 : (0 : Int) ≤ (j : Int) := by omega
        have hj4 : IntKind.i64.wrap ((j : Int) + 1) = (j : Int) + 1 := IntWalk.i64_in _ ⟨by omega, by omega⟩
        have hj5 : ((j : Int) + 1).toNat = j + 1 := by omega
        have hj7 : IntKind.i64.wrap (j : Int) = (j : Int) := IntWalk.i64_in _ ⟨by omega, by omega⟩
        have hj6 : (0 : Int) ≤ (j : Int) + 1 := by omega
        have HS1 := Lib.hid (HS.out.call (Below.refl _ _).drew)
        obtain ⟨x, hx⟩ : ∃ x, encF (eDif y1 q1 j1 y2 q2 j2) j = x := ⟨_, rfl⟩
        obtain ⟨y, hy⟩ : ∃ y, minK (encF (eDif y1 q1 j1 y2 q2 j2)) (m - 1 - (j + 1)) (j + 1) = y := ⟨_, rfl⟩
        obtain ⟨v, hv⟩ : ∃ v, minK (encF (eDif y1 q1 j1 y2 q2 j2)) (m - 1 - j) j = v := ⟨_, rfl⟩
        have hvm : v = min x y := by
          rw [← hx, ← hy, ← hv, show m - 1 - j = (m - 1 - (j + 1)) + 1 by omega]; rfl
        have O8 := Lib.hid (show (wk.drew.cell? ⟨lb, j, none⟩ = some (.int .i64 x) ∧ wk.drew.cell? ⟨lb, j + 1, none⟩ = some (.int .i64 y)) from ⟨by
          have h := (HS1.out.row.cell j (by omega)).1
          rw [if_neg (by omega), hx] at h; exact h, by
          have h := (HS1.out.row.cell (j + 1) (by omega)).1
          rw [if_pos (Nat.le_refl _), hy] at h; exact h⟩)
        have HSN := Lib.hid (HS1.out.set (k := j) (by omega) v (F' := (fun i => if j ≤ i then minK (encF (eDif y1 q1 j1 y2 q2 j2)) (m - 1 - i) i else encF (eDif y1 q1 j1 y2 q2 j2) i)) (fun i hi => by
          by_cases e : i = j
          · subst e; rw [if_pos rfl, if_pos (Nat.le_refl _)]; exact hv.symm
          · rw [if_neg e]
            by_cases e2 : j + 1 ≤ i
            · rw [if_pos e2, if_pos (by omega)]
            · rw [if_neg e2, if_neg (by omega)]))
        clear hx hy hv hj0
        go_upto_region 11 with fail
        by_cases hxy : x < y
        · obtain rfl : x = v := by omega
          clear hvm
          refine wp_region_keeps (fun u => (u.cell? ⟨lb, j, none⟩ = some (.int .i64 x) ∧ u.cell? ⟨lb, j + 1, none⟩ = some (.int .i64 y))) 12 2 (by kernel_rfl) (by kernel_rfl) O8.out (fun hHeld0 => ?_)
          refine wpAnyK_take (i := 0) (v := ?_) rfl (by kernel_rfl) (fun _ _ _ h => h) (Or.inl ⟨by rfl, ?_⟩) (by assumption) ?_
          rotate_left
          · (intro w hSw; (try dsimp only at hSw); go_simp; try with_reducible rfl)
          try simp only [Act.put, List.getElem_toArray, List.getElem_cons_zero, List.getElem_cons_succ, List.setIfInBounds_toArray, List.set_cons_zero, List.set_cons_succ]
          refine wpAnyK_take (i := 1) (v := ?_) rfl (by kernel_rfl) (fun _ _ _ h => h) (Or.inl ⟨by rfl, ?_⟩) (by assumption) ?_
          rotate_left
          · (intro w hSw; (try dsimp only at hSw); go_simp; try with_reducible rfl)
          try simp only [Act.put, List.getElem_toArray, List.getElem_cons_zero, List.getElem_cons_succ, List.setIfInBounds_toArray, List.set_cons_zero, List.set_cons_succ]
          refine wpAnyK_take (i := 2) (v := ?_) rfl (by kernel_rfl) (fun _ _ _ h => h) (Or.inl ⟨by rfl, ?_⟩) (by assumption) ?_
          rotate_left
          · (intro w hSw; (try dsimp only at hSw); go_simp; try with_reducible rfl)
          try simp only [Act.put, List.getElem_toArray, List.getElem_cons_zero, List.getElem_cons_succ, List.setIfInBounds_toArray, List.set_cons_zero, List.set_cons_succ]
          refine wpAnyK_take (i := 3) (v := ?_) rfl (by kernel_rfl) (fun _ _ _ h => h) (Or.inl ⟨by rfl, ?_⟩) (by assumption) ?_
          rotate_left
          · (intro w hSw; (try dsimp only at hSw); go_simp; try with_reducible rfl)
          try simp only [Act.put, List.getElem_toArray, List.getElem_cons_zero, List.getElem_cons_succ, List.setIfInBounds_toArray, List.set_cons_zero, List.set_cons_succ]
          refine wpAnyK_take (i := 4) (v := ?_) rfl (by kernel_rfl) (fun _ _ _ h => h) (Or.inl ⟨by rfl, ?_⟩) (by assumption) ?_
          rotate_left
          · (intro w hSw; (try dsimp only at hSw); go_simp; try with_reducible rfl)
          try simp only [Act.put, List.getElem_toArray, List.getElem_cons_zero, List.getElem_cons_succ, List.setIfInBounds_toArray, List.set_cons_zero, List.set_cons_succ]
          refine wpAnyK_take (i := 5) (v := ?_) rfl (by kernel_rfl) (fun _ _ _ h => h) (Or.inl ⟨by rfl, ?_⟩) (by assumption) ?_
          rotate_left
          · (intro w hSw; (try dsimp only at hSw); go_simp; try with_reducible rfl)
          try simp only [Act.put, List.getElem_toArray, List.getElem_cons_zero, List.getElem_cons_succ, List.setIfInBounds_toArray, List.set_cons_zero, List.set_cons_succ]
          refine wpAnyK_take (i := 6) (v := ?_) rfl (by kernel_rfl) (fun _ _ _ h => h) (Or.inl ⟨by rfl, ?_⟩) (by assumption) ?_
          rotate_left
          · (intro w hSw; (try dsimp only at hSw); go_simp; try with_reducible rfl)
          try simp only [Act.put, List.getElem_toArray, List.getElem_cons_zero, List.getElem_cons_succ, List.setIfInBounds_toArray, List.set_cons_zero, List.set_cons_succ]
          refine wpAnyK_take (i := 7) (v := ?_) rfl (by kernel_rfl) (fun _ _ _ h => h) (Or.inl ⟨by rfl, ?_⟩) (by assumption) ?_
          rotate_left
          · (intro w hSw; (try dsimp only at hSw); go_simp; try with_reducible rfl)
          try simp only [Act.put, List.getElem_toArray, List.getElem_cons_zero, List.getElem_cons_succ, List.setIfInBounds_toArray, List.set_cons_zero, List.set_cons_succ]
          refine wpAnyK_take (i := 8) (v := ?_) rfl (by kernel_rfl) (fun _ _ _ h => h) (Or.inl ⟨by rfl, ?_⟩) (by assumption) ?_
          rotate_left
          · (intro w hSw; (try dsimp only at hSw); go_simp; try with_reducible rfl)
          try simp only [Act.put, List.getElem_toArray, List.getElem_cons_zero, List.getElem_cons_succ, List.setIfInBounds_toArray, List.set_cons_zero, List.set_cons_succ]
          refine wpAnyK_take (i := 9) (v := ?_) rfl (by kernel_rfl) (fun _ _ _ h => h) (Or.inl ⟨by rfl, ?_⟩) (by assumption) ?_
          rotate_left
          · (intro w hSw; (try dsimp only at hSw); go_simp; try with_reducible rfl)
          try simp only [Act.put, List.getElem_toArray, List.getElem_cons_zero, List.getElem_cons_succ, List.setIfInBounds_toArray, List.set_cons_zero, List.set_cons_succ]
          refine wpAnyK_take (i := 10) (v := ?_) rfl (by kernel_rfl) (fun _ _ _ h => h) (Or.inl ⟨by rfl, ?_⟩) (by assumption) ?_
          rotate_left
          · (intro w hSw; (try dsimp only at hSw); go_simp; try with_reducible rfl)
          try simp only [Act.put, List.getElem_toArray, List.getElem_cons_zero, List.getElem_cons_succ, List.setIfInBounds_toArray, List.set_cons_zero, List.set_cons_succ]
          refine wpAnyK_take (i := 11) (v := ?_) rfl (by kernel_rfl) (fun _ _ _ h => h) (Or.inl ⟨by rfl, ?_⟩) (by assumption) ?_
          rotate_left
          · (intro w hSw; (try dsimp only at hSw); go_simp; try with_reducible rfl)
          try simp only [Act.put, List.getElem_toArray, List.getElem_cons_zero, List.getElem_cons_succ, List.setIfInBounds_toArray, List.set_cons_zero, List.set_cons_succ]
          refine wpAnyK_done (by kernel_rfl) ?_
          simp only [List.drop_succ_cons, List.drop_zero]
          clear hHeld0
          obtain ⟨b0, b1⟩ := HS1.out.row.cell j (by omega)
          go_wp2_with fail
          go_roundw
          case rel => exact ⟨j, by go_num, by omega, HSN⟩
          case measure => simp [intOf] <;> omega
        · obtain rfl : y = v := by omega
          clear hvm
          refine wp_region_keeps (fun u => (u.cell? ⟨lb, j, none⟩ = some (.int .i64 x) ∧ u.cell? ⟨lb, j + 1, none⟩ = some (.int .i64 y))) 12 2 (by kernel_rfl) (by kernel_rfl) O8.out (fun hHeld0 => ?_)
          refine wpAnyK_take (i := 0) (v := ?_) rfl (by kernel_rfl) (fun _ _ _ h => h) (Or.inl ⟨by rfl, ?_⟩) (by assumption) ?_
          rotate_left
          · (intro w hSw; (try dsimp only at hSw); go_simp; try with_reducible rfl)
          try simp only [Act.put, List.getElem_toArray, List.getElem_cons_zero, List.getElem_cons_succ, List.setIfInBounds_toArray, List.set_cons_zero, List.set_cons_succ]
          refine wpAnyK_take (i := 1) (v := ?_) rfl (by kernel_rfl) (fun _ _ _ h => h) (Or.inl ⟨by rfl, ?_⟩) (by assumption) ?_
          rotate_left
          · (intro w hSw; (try dsimp only at hSw); go_simp; try with_reducible rfl)
          try simp only [Act.put, List.getElem_toArray, List.getElem_cons_zero, List.getElem_cons_succ, List.setIfInBounds_toArray, List.set_cons_zero, List.set_cons_succ]
          refine wpAnyK_take (i := 2) (v := ?_) rfl (by kernel_rfl) (fun _ _ _ h => h) (Or.inl ⟨by rfl, ?_⟩) (by assumption) ?_
          rotate_left
          · (intro w hSw; (try dsimp only at hSw); go_simp; try with_reducible rfl)
          try simp only [Act.put, List.getElem_toArray, List.getElem_cons_zero, List.getElem_cons_succ, List.setIfInBounds_toArray, List.set_cons_zero, List.set_cons_succ]
          refine wpAnyK_take (i := 3) (v := ?_) rfl (by kernel_rfl) (fun _ _ _ h => h) (Or.inl ⟨by rfl, ?_⟩) (by assumption) ?_
          rotate_left
          · (intro w hSw; (try dsimp only at hSw); go_simp; try with_reducible rfl)
          try simp only [Act.put, List.getElem_toArray, List.getElem_cons_zero, List.getElem_cons_succ, List.setIfInBounds_toArray, List.set_cons_zero, List.set_cons_succ]
          refine wpAnyK_take (i := 4) (v := ?_) rfl (by kernel_rfl) (fun _ _ _ h => h) (Or.inl ⟨by rfl, ?_⟩) (by assumption) ?_
          rotate_left
          · (intro w hSw; (try dsimp only at hSw); go_simp; try with_reducible rfl)
          try simp only [Act.put, List.getElem_toArray, List.getElem_cons_zero, List.getElem_cons_succ, List.setIfInBounds_toArray, List.set_cons_zero, List.set_cons_succ]
          refine wpAnyK_take (i := 5) (v := ?_) rfl (by kernel_rfl) (fun _ _ _ h => h) (Or.inl ⟨by rfl, ?_⟩) (by assumption) ?_
          rotate_left
          · (intro w hSw; (try dsimp only at hSw); go_simp; try with_reducible rfl)
          try simp only [Act.put, List.getElem_toArray, List.getElem_cons_zero, List.getElem_cons_succ, List.setIfInBounds_toArray, List.set_cons_zero, List.set_cons_succ]
          refine wpAnyK_take (i := 6) (v := ?_) rfl (by kernel_rfl) (fun _ _ _ h => h) (Or.inl ⟨by rfl, ?_⟩) (by assumption) ?_
          rotate_left
          · (intro w hSw; (try dsimp only at hSw); go_simp; try with_reducible rfl)
          try simp only [Act.put, List.getElem_toArray, List.getElem_cons_zero, List.getElem_cons_succ, List.setIfInBounds_toArray, List.set_cons_zero, List.set_cons_succ]
          refine wpAnyK_take (i := 7) (v := ?_) rfl (by kernel_rfl) (fun _ _ _ h => h) (Or.inl ⟨by rfl, ?_⟩) (by assumption) ?_
          rotate_left
          · (intro w hSw; (try dsimp only at hSw); go_simp; try with_reducible rfl)
          try simp only [Act.put, List.getElem_toArray, List.getElem_cons_zero, List.getElem_cons_succ, List.setIfInBounds_toArray, List.set_cons_zero, List.set_cons_succ]
          refine wpAnyK_take (i := 8) (v := ?_) rfl (by kernel_rfl) (fun _ _ _ h => h) (Or.inl ⟨by rfl, ?_⟩) (by assumption) ?_
          rotate_left
          · (intro w hSw; (try dsimp only at hSw); go_simp; try with_reducible rfl)
          try simp only [Act.put, List.getElem_toArray, List.getElem_cons_zero, List.getElem_cons_succ, List.setIfInBounds_toArray, List.set_cons_zero, List.set_cons_succ]
          refine wpAnyK_take (i := 9) (v := ?_) rfl (by kernel_rfl) (fun _ _ _ h => h) (Or.inl ⟨by rfl, ?_⟩) (by assumption) ?_
          rotate_left
          · (intro w hSw; (try dsimp only at hSw); go_simp; try with_reducible rfl)
          try simp only [Act.put, List.getElem_toArray, List.getElem_cons_zero, List.getElem_cons_succ, List.setIfInBounds_toArray, List.set_cons_zero, List.set_cons_succ]
          refine wpAnyK_take (i := 10) (v := ?_) rfl (by kernel_rfl) (fun _ _ _ h => h) (Or.inl ⟨by rfl, ?_⟩) (by assumption) ?_
          rotate_left
          · (intro w hSw; (try dsimp only at hSw); go_simp; try with_reducible rfl)
          try simp only [Act.put, List.getElem_toArray, List.getElem_cons_zero, List.getElem_cons_succ, List.setIfInBounds_toArray, List.set_cons_zero, List.set_cons_succ]
          refine wpAnyK_take (i := 11) (v := ?_) rfl (by kernel_rfl) (fun _ _ _ h => h) (Or.inl ⟨by rfl, ?_⟩) (by assumption) ?_
          rotate_left
          · (intro w hSw; (try dsimp only at hSw); go_simp; try with_reducible rfl)
          try simp only [Act.put, List.getElem_toArray, List.getElem_cons_zero, List.getElem_cons_succ, List.setIfInBounds_toArray, List.set_cons_zero, List.set_cons_succ]
          refine wpAnyK_done (by kernel_rfl) ?_
          simp only [List.drop_succ_cons, List.drop_zero]
          clear hHeld0
          obtain ⟨b0, b1⟩ := HS1.out.row.cell j (by omega)
          go_wp2_with fail
          go_roundw
          case rel => refine ⟨j, by go_num, by omega, ?_⟩; rw [show (if y < x then y else x) = y by split <;> omega]; exact HSN
          case measure => simp [intOf] <;> omega
      · obtain rfl : k = 0 := by omega
        have hk0 : ¬ (0 : Int) ≤ ((0 : Nat) : Int) - 1 := by omega
        have HFE := Lib.hid (show ∀ t, t < 400 + 2 * L → (fun i => if 0 ≤ i then minK (encF (eDif y1 q1 j1 y2 q2 j2)) (m - 1 - i) i else encF (eDif y1 q1 j1 y2 q2 j2) i) t = encF (eAbove y1 q1 j1 y2 q2 j2) t from fun t ht => by
          show (if 0 ≤ t then _ else _) = _
          rw [if_pos (Nat.zero_le _)]
          exact (above_win GY.out.1 GY.out.2 HLC.out HST.out (by have := HM.out; omega) (by have := HM.out; omega) (by have := HM.out; omega)).symm)
        have HFM := Lib.hid (show ∀ t, t < m → Mid ((fun i => if 0 ≤ i then minK (encF (eDif y1 q1 j1 y2 q2 j2)) (m - 1 - i) i else encF (eDif y1 q1 j1 y2 q2 j2) i) t) from fun t ht => by
          show Mid (if 0 ≤ t then _ else _)
          rw [if_pos (Nat.zero_le _)]
          obtain ⟨s, s1, s2, e⟩ := minK_found (encF (eDif y1 q1 j1 y2 q2 j2)) (m - 1 - t) t
          rw [← e]
          exact dif_mid GY.out.1 GY.out.2 (by omega))
        have HGG := HGE.out
        have HFL := Lib.hid (show ∀ t, t < 400 + 2 * L → (fun i => if 0 ≤ i then minK (encF (eDif y1 q1 j1 y2 q2 j2)) (m - 1 - i) i else encF (eDif y1 q1 j1 y2 q2 j2) i) t = encF (eAbove y1 q1 j1 y2 q2 j2) t from HFE.out)
        obtain ⟨c0, c1, c2, c3, c4, c5⟩ := HS.out.kd
        go_wp2_with fail
        with_reducible refine (dcurve_any lb m L G (eAbove y1 q1 j1 y2 q2 j2) hL1 hL2 HM.out ⟨hGl, hGu⟩ HSE.out.1 HSE.out.2.1 HSE.out.2.2 (fun i => if 0 ≤ i then minK (encF (eDif y1 q1 j1 y2 q2 j2)) (m - 1 - i) i else encF (eDif y1 q1 j1 y2 q2 j2) i) HFL.out HFM.out _ HS.out.row).mono ?_
        rintro e v9 ⟨hb, ⟨a9, n9, cap9, z9, p9, i9, rfl, hr, hf, hx⟩ | ⟨rfl, hno⟩⟩
        · have HP := Lib.hid (GivesE.post (E := (eAbove z1 p1 i1 z2 p2 i2)) (b := w.heap.size + 2) HS.out.below (by omega) HS.out.res.lt hb hr hx (show EForm z9 p9 i9 (eAbove z1 p1 i1 z2 p2 i2) by rw [← HEE.out]; exact hf))
          obtain ⟨r0, r1, r2, r3, r4, r5⟩ := HS.out.res.below hb
          clear hb hr hf hx
          go_wp2_with fail
          exact bodyPost_ret (v := .tuple #[curV a9 n9 cap9 p9 i9, .int .i64 0]) (by simp [results, Try.results22, go_sem, r0, r1, r2]) rfl HP.out
        · have HP := Lib.hid (GivesE.postNo (E := (eAbove z1 p1 i1 z2 p2 i2)) (b := w.heap.size + 2) HS.out.below (by omega) hb (show ¬ ECan (eAbove z1 p1 i1 z2 p2 i2) by rw [← HEE.out]; exact hno))
          obtain ⟨r0, r1, r2, r3, r4, r5⟩ := HS.out.res.below hb
          clear hb hno
          go_wp2_with fail
          exact bodyPost_ret (v := .tuple #[curV none 0 0 0 0, .int .i64 3]) (by simp [results, Try.results22, go_sem, r0, r1, r2]) rfl HP.out

end Go.Proofs.Ytknimlpdpgpliaa

namespace Go.Proofs.Ytknimlpdpgpliaa
open Go.RowKit
set_option linter.unusedSimpArgs false
set_option linter.unusedVariables false

theorem r0_good : Good [0] 1 10 := (okC_iff [0] 1 10).1 (by decide)
theorem r1_good : Good [0, 14, 14, 28] 2 14 := (okC_iff [0, 14, 14, 28] 2 14).1 (by decide)
theorem r0_fin : ¬ InfC [0] := by rw [infC_iff]; decide
theorem r1_fin : ¬ InfC [0, 14, 14, 28] := by rw [infC_iff]; decide
theorem r0_at (t : Nat) : atC [0] 1 10 t = 10 * (t : Int) := by
  have hp := r0_good.per (show ¬ ([0] : List Int).getD (([0] : List Int).length - 1) 0 = infV by decide)
  induction t with
  | zero => decide
  | succ t ih => have := hp t (Nat.zero_le _); omega
theorem r1_at (t : Nat) : atC [0, 14, 14, 28] 2 14 t = 14 * (((t + 1) / 2 : Nat) : Int) := by
  have hp := r1_good.per (show ¬ ([0, 14, 14, 28] : List Int).getD (([0, 14, 14, 28] : List Int).length - 1) 0 = infV by decide)
  induction t using Nat.strongRecOn with
  | ind t ih =>
    by_cases h : t < 4
    · have h4 : t = 0 ∨ t = 1 ∨ t = 2 ∨ t = 3 := by omega
      rcases h4 with rfl | rfl | rfl | rfl <;> decide
    · have h1 := hp (t - 2) (by show 2 ≤ t - 2; omega)
      rw [show t - 2 + 2 = t by omega] at h1
      have h2 := ih (t - 2) (by omega)
      omega
theorem ex_dif (t : Nat) : eDif [0] 1 10 [0, 14, 14, 28] 2 14 t = some ((fun t : Nat => max 0 (10 * (t : Int) - 14 * (((t + 1) / 2 : Nat) : Int))) t) := by
  rw [eDif_fin r0_fin r1_fin, r0_at, r1_at]
theorem ex_rmax : ∀ t : Nat, rmax (fun t : Nat => max 0 (10 * (t : Int) - 14 * (((t + 1) / 2 : Nat) : Int))) t = 3 * ((t : Int) - ((t % 2 : Nat) : Int))
  | 0 => by decide
  | t + 1 => by
    show max (rmax _ t) (max 0 (10 * ((t + 1 : Nat) : Int) - 14 * (((t + 1 + 1) / 2 : Nat) : Int))) = _
    rw [ex_rmax t]
    omega
theorem ex_rest (t : Nat) : eRest [0] 1 10 [0, 14, 14, 28] 2 14 t = some (3 * ((t : Int) - ((t % 2 : Nat) : Int))) := by
  rw [← ex_rmax t]; exact maxO_rmax (fun t => ex_dif t) t
theorem ex_rest_can : ECan (eRest [0] 1 10 [0, 14, 14, 28] 2 14) :=
  can_fin (F := fun t => 3 * ((t : Int) - ((t % 2 : Nat) : Int))) (s := 0) (p := 2) (c := 6) (fun t => ex_rest t) (fun t _ => by show 3 * (((t + 2 : Nat) : Int) - (((t + 2) % 2 : Nat) : Int)) = 3 * ((t : Int) - ((t % 2 : Nat) : Int)) + 6; omega) (by omega) (by omega) (by omega) (by show (0 : Int) ≤ 3 * (((0 : Nat) : Int) - ((0 % 2 : Nat) : Int)); decide) (fun t _ => by show 3 * ((t : Int) - ((t % 2 : Nat) : Int)) ≤ 3 * (((t + 1 : Nat) : Int) - (((t + 1) % 2 : Nat) : Int)); omega) (by decide) (by omega)
theorem ex_above (t : Nat) : eAbove [0] 1 10 [0, 14, 14, 28] 2 14 t = some (max 0 (3 * ((t : Int) + 1 - ((t % 2 : Nat) : Int)) - 7)) := by
  refine minO_eq ⟨⟨t + 1 - t % 2, by omega, ?_⟩, fun s hs => ?_⟩
  · rw [ex_dif]; show some (max 0 _) = some (max 0 _); congr 1; omega
  · rw [ex_dif]; refine ole_some ?_; show max 0 _ ≤ max 0 _
    obtain ⟨k, hk⟩ : ∃ k, s = 2 * k ∨ s = 2 * k + 1 := ⟨s / 2, by omega⟩
    obtain ⟨j, hj⟩ : ∃ j, t = 2 * j ∨ t = 2 * j + 1 := ⟨t / 2, by omega⟩
    rcases hk with rfl | rfl <;> rcases hj with rfl | rfl <;> omega
theorem ex_above_can : ECan (eAbove [0] 1 10 [0, 14, 14, 28] 2 14) :=
  can_fin (F := fun t => max 0 (3 * ((t : Int) + 1 - ((t % 2 : Nat) : Int)) - 7)) (s := 2) (p := 2) (c := 6) (fun t => ex_above t) (fun t h => by show max 0 (3 * (((t + 2 : Nat) : Int) + 1 - (((t + 2) % 2 : Nat) : Int)) - 7) = max 0 (3 * ((t : Int) + 1 - ((t % 2 : Nat) : Int)) - 7) + 6; omega) (by omega) (by omega) (by omega) (by decide) (fun t _ => by show max 0 (3 * ((t : Int) + 1 - ((t % 2 : Nat) : Int)) - 7) ≤ max 0 (3 * (((t + 1 : Nat) : Int) + 1 - (((t + 1) % 2 : Nat) : Int)) - 7); omega) (by decide) (by omega)

theorem mrest_at (a1 : Option Addr) (n1 cap1 : Nat) (z1 : List Int) (p1 : Nat) (i1 : Int) (g1 : Good z1 p1 i1) (a2 : Option Addr) (n2 cap2 : Nat) (z2 : List Int) (p2 : Nat) (i2 : Int) (g2 : Good z2 p2 i2) (h1 : p1 ≤ 10) (h2 : p2 ≤ 10) {E : Nat → Option Int} (hE : eRest z1 p1 i1 z2 p2 i2 = E)
    (w : World) (r1 : RowZ w a1 n1 cap1 z1) (r2 : RowZ w a2 n2 cap2 z2) : Calls Try.prog 21 #[curV a1 n1 cap1 p1 i1, curV a2 n2 cap2 p2 i2] w (GivesE E w) := by
  subst hE
  obtain ⟨L, hL2, hL⟩ := lcm_small g1 g2 h1 h2
  exact rest_ok a1 n1 cap1 z1 p1 i1 g1 a2 n2 cap2 z2 p2 i2 g2 L hL hL2 w r1 r2
theorem mabove_at (a1 : Option Addr) (n1 cap1 : Nat) (z1 : List Int) (p1 : Nat) (i1 : Int) (g1 : Good z1 p1 i1) (a2 : Option Addr) (n2 cap2 : Nat) (z2 : List Int) (p2 : Nat) (i2 : Int) (g2 : Good z2 p2 i2) (h1 : p1 ≤ 10) (h2 : p2 ≤ 10) {E : Nat → Option Int} (hE : eAbove z1 p1 i1 z2 p2 i2 = E)
    (w : World) (r1 : RowZ w a1 n1 cap1 z1) (r2 : RowZ w a2 n2 cap2 z2) : Calls Try.prog 22 #[curV a1 n1 cap1 p1 i1, curV a2 n2 cap2 p2 i2] w (GivesE E w) := by
  subst hE
  obtain ⟨L, hL2, hL⟩ := lcm_small g1 g2 h1 h2
  exact above_ok a1 n1 cap1 z1 p1 i1 g1 a2 n2 cap2 z2 p2 i2 g2 L hL hL2 w r1 r2
theorem valid_e (a : Option Addr) (n cap : Nat) (zs : List Int) (p : Nat) (inc : Int) (g : Good zs p inc) (w : World) (h : RowZ w a n cap zs) : Calls Try.prog 81 #[curV a n cap p inc] w (Says (.bool true) w) :=
  rvalid_any a n cap zs p inc ⟨by omega, by have := g.p2; omega⟩ ⟨by have := g.i0; omega, by have := g.i1; omega⟩ true ((okC_iff zs p inc).2 g) w h

theorem enc_dif2 {zs ys : List Int} {p q : Nat} {inc jnc : Int} (g : Good zs p inc) (k : Good ys q jnc) {t : Nat} (ht : t ≤ 1048576) : encF (eDif zs p inc ys q jnc) t = subI (atC zs p inc t) (atC ys q jnc t) := by
  unfold encF eDif subI
  rcases eC_cases k ht with ⟨h1, h2⟩ | ⟨y, h1, h2, h3, h4⟩
  · rw [h1, h2, if_pos rfl, osub_r]; rfl
  · rw [h1, h2, if_neg (by unfold infV; omega)]
    rcases eC_cases g ht with ⟨k1, k2⟩ | ⟨x, k1, k2, k3, k4⟩
    · rw [k1, k2, if_pos rfl]; rfl
    · rw [k1, k2, if_neg (by unfold infV; omega)]; rfl

set_option maxRecDepth 100000 in
set_option maxHeartbeats 3200000 in
theorem ldif_any (a1 : Option Addr) (n1 cap1 : Nat) (z1 : List Int) (p1 : Nat) (i1 : Int) (g1 : Good z1 p1 i1) (a2 : Option Addr) (n2 cap2 : Nat) (z2 : List Int) (p2 : Nat) (i2 : Int) (g2 : Good z2 p2 i2) (ti : Int) (t : Nat) (hti : ti = t) (ht : t < 1048576) (v : Int) (hv : encF (eDif z1 p1 i1 z2 p2 i2) t = v) (w : World) (h1 : RowZ w a1 n1 cap1 z1) (h2 : RowZ w a2 n2 cap2 z2) :
    Calls Try.prog 24 #[curV a1 n1 cap1 p1 i1, curV a2 n2 cap2 p2 i2, .int .i64 ti] w (Says (.int .i64 v) w) := by
  subst hti
  obtain ⟨W, hW⟩ : ∃ W, (w.alloc (.cells #[.slice a1 n1 cap1, .int .i64 p1, .int .i64 i1] 26)).alloc (.cells #[.slice a2 n2 cap2, .int .i64 p2, .int .i64 i2] 26) = W := ⟨_, rfl⟩
  have hB : Below w.heap.size w W := by rw [← hW]; exact ((Below.refl _ _).alloc (Nat.le_refl _) _).alloc (by simp) _
  have K1 := Lib.hid (show Cur3 W w.heap.size (.slice a1 n1 cap1) (.int .i64 p1) (.int .i64 i1) by rw [← hW]; exact (Cur3.new w _ _ _ _).alloc _)
  have K2 := Lib.hid (show Cur3 W (w.heap.size + 1) (.slice a2 n2 cap2) (.int .i64 p2) (.int .i64 i2) by rw [← hW]; exact Cur3.new2 w _ _ _ _ _)
  have HB := Lib.hid hB
  have HR := Lib.hid (And.intro (h1.under hB) (h2.under hB))
  have HG := Lib.hid (And.intro g1 g2)
  have KS := Lib.hid (show ∀ u, Below W.heap.size W u → ((u.cell? ⟨w.heap.size, 0, none⟩ = some (.slice a1 n1 cap1) ∧ u.cell? ⟨w.heap.size, 1, none⟩ = some (.int .i64 p1) ∧ u.cell? ⟨w.heap.size, 2, none⟩ = some (.int .i64 i1)) ∧ (u.cell? ⟨w.heap.size + 1, 0, none⟩ = some (.slice a2 n2 cap2) ∧ u.cell? ⟨w.heap.size + 1, 1, none⟩ = some (.int .i64 p2) ∧ u.cell? ⟨w.heap.size + 1, 2, none⟩ = some (.int .i64 i2))) from fun u hu => by
    have x := K1.out.below hu
    have y := K2.out.below hu
    exact ⟨⟨x.c0, x.c1, x.c2⟩, y.c0, y.c1, y.c2⟩)
  obtain ⟨x, hx⟩ : ∃ x, atC z1 p1 i1 t = x := ⟨_, rfl⟩
  obtain ⟨y, hy⟩ : ∃ y, atC z2 p2 i2 t = y := ⟨_, rfl⟩
  have hvv : v = subI x y := by rw [← hv, ← hx, ← hy]; exact enc_dif2 g1 g2 (by omega)
  have bx := (mid_far g1 (t := t) (by omega)).bd
  have by' := (mid_far g2 (t := t) (by omega)).bd
  rw [hx] at bx
  rw [hy] at by'
  obtain ⟨bx0, bx1, bx2⟩ := bx
  obtain ⟨by0, by1, by2⟩ := by'
  have HX := Lib.hid hx
  have HY := Lib.hid hy
  have S0 := Lib.hid ((Below.refl W.heap.size W).drew)
  have hW1 := hW
  have htb : (t : Int) ≤ 1048576 := by omega
  clear hv hx hy hW hB h1 h2 g1 g2
  go_enter Try.func24, Try.ntmps24
  go_upto_region 1 with fail
  try rw [hW1]
  clear hW1
  refine wp_region_keeps (fun u => ((u.cell? ⟨w.heap.size, 0, none⟩ = some (.slice a1 n1 cap1) ∧ u.cell? ⟨w.heap.size, 1, none⟩ = some (.int .i64 p1) ∧ u.cell? ⟨w.heap.size, 2, none⟩ = some (.int .i64 i1)) ∧ (u.cell? ⟨w.heap.size + 1, 0, none⟩ = some (.slice a2 n2 cap2) ∧ u.cell? ⟨w.heap.size + 1, 1, none⟩ = some (.int .i64 p2) ∧ u.cell? ⟨w.heap.size + 1, 2, none⟩ = some (.int .i64 i2)))) 6 2 (by kernel_rfl) (by kernel_rfl) (KS.out _ S0.out) (fun hHeld0 => ?_)
  refine wpAnyK_take (i := 0) (v := ?_) rfl (by kernel_rfl) (fun _ _ _ h => h) (Or.inl ⟨by rfl, ?_⟩) (by assumption) ?_
  rotate_left
  · (intro w hSw; (try dsimp only at hSw); go_simp; try with_reducible rfl)
  try simp only [Act.put, List.getElem_toArray, List.getElem_cons_zero, List.getElem_cons_succ, List.setIfInBounds_toArray, List.set_cons_zero, List.set_cons_succ]
  refine wpAnyK_take (i := 1) (v := ?_) rfl (by kernel_rfl) (fun _ _ _ h => h) (Or.inl ⟨by rfl, ?_⟩) (by assumption) ?_
  rotate_left
  · (intro w hSw; (try dsimp only at hSw); go_simp; try with_reducible rfl)
  try simp only [Act.put, List.getElem_toArray, List.getElem_cons_zero, List.getElem_cons_succ, List.setIfInBounds_toArray, List.set_cons_zero, List.set_cons_succ]
  refine wpAnyK_take (i := 3) (v := ?_) rfl (by kernel_rfl) (fun _ _ _ h => h) (Or.inl ⟨by rfl, ?_⟩) (by assumption) ?_
  rotate_left
  · (intro w hSw; (try dsimp only at hSw); go_simp; try with_reducible rfl)
  try simp only [Act.put, List.getElem_toArray, List.getElem_cons_zero, List.getElem_cons_succ, List.setIfInBounds_toArray, List.set_cons_zero, List.set_cons_succ]
  refine wpAnyK_take (i := 4) (v := ?_) rfl (by kernel_rfl) (fun _ _ _ h => h) (Or.inl ⟨by rfl, ?_⟩) (by assumption) ?_
  rotate_left
  · (intro w hSw; (try dsimp only at hSw); go_simp; try with_reducible rfl)
  try simp only [Act.put, List.getElem_toArray, List.getElem_cons_zero, List.getElem_cons_succ, List.setIfInBounds_toArray, List.set_cons_zero, List.set_cons_succ]
  refine wpAnyK_step (i := 2) rfl (by kernel_rfl) (fun K hK => ?_)
  go_simp
  with_reducible refine (rat_at a1 n1 cap1 z1 p1 i1 HG.out.1 _ t rfl (by omega) x HX.out _ (HR.out.1.under S0.out)).mono ?_
  rintro e u1 ⟨rfl, hb⟩
  have S1 := Lib.hid (S0.out.trans (hb.mono S0.out.size))
  clear hb
  refine hK.out _ _ (KS.out _ S1.out) (fun hHeld1 => ?_)
  clear hK K hHeld0
  try simp only [Act.put, List.getElem_toArray, List.getElem_cons_zero, List.getElem_cons_succ, List.setIfInBounds_toArray, List.set_cons_zero, List.set_cons_succ]
  refine wpAnyK_step (i := 5) rfl (by kernel_rfl) (fun K hK => ?_)
  go_simp
  with_reducible refine (rat_at a2 n2 cap2 z2 p2 i2 HG.out.2 _ t rfl (by omega) y HY.out _ (HR.out.2.under S1.out)).mono ?_
  rintro e u2 ⟨rfl, hb⟩
  have S2 := Lib.hid (S1.out.trans (hb.mono S1.out.size))
  clear hb
  refine hK.out _ _ (KS.out _ S2.out) (fun hHeld2 => ?_)
  clear hK K hHeld1
  try simp only [Act.put, List.getElem_toArray, List.getElem_cons_zero, List.getElem_cons_succ, List.setIfInBounds_toArray, List.set_cons_zero, List.set_cons_succ]
  refine wpAnyK_done (by kernel_rfl) ?_
  simp only [List.drop_succ_cons, List.drop_zero]
  clear hHeld2
  by_cases e1 : y = 4611686018427387904
  · have e2 : v = 0 := by rw [hvv]; unfold subI infV; rw [if_pos e1]
    subst e2 e1
    clear hvv
    have HP := Lib.hid (HB.out.trans (S2.out.mono HB.out.size))
    go_wp2_with fail
    all_goals go_ret
    all_goals exact ⟨ret_int (by omega), HP.out⟩
  · have t1 : (y == 4611686018427387904) = false := by simpa using e1
    by_cases e2 : x = 4611686018427387904
    · have e3 : v = 4611686018427387904 := by rw [hvv]; unfold subI infV; rw [if_neg e1, if_pos e2]
      subst e3 e2
      clear hvv e1
      have HP := Lib.hid (HB.out.trans (S2.out.mono HB.out.size))
      go_wp2_with fail
      all_goals go_ret
      all_goals exact ⟨ret_int (by omega), HP.out⟩
    · have t2 : (x == 4611686018427387904) = false := by simpa using e2
      have e3 : v = max 0 (x - y) := by rw [hvv]; unfold subI infV; rw [if_neg e1, if_neg e2]
      clear hvv e1 e2
      by_cases h3 : 0 < x - y
      · obtain rfl : x - y = v := by omega
        clear e3
        have HP := Lib.hid (HB.out.trans (S2.out.mono HB.out.size))
        go_wp2_with fail
        all_goals go_ret
        all_goals exact ⟨ret_int (by omega), HP.out⟩
      · obtain rfl : v = 0 := by omega
        clear e3
        have HP := Lib.hid (HB.out.trans (S2.out.mono HB.out.size))
        go_wp2_with fail
        all_goals go_ret
        all_goals exact ⟨ret_int (by omega), HP.out⟩

theorem lits6 (w : World) : Bx ((((w.alloc (.cells #[.int .i64 0] 3)).alloc (.cells #[.int .i64 0, .int .i64 14, .int .i64 14, .int .i64 28] 3)).alloc (.cells #[.slice (some ⟨w.heap.size, 0, none⟩) 1 1, .int .i64 1, .int .i64 10] 26)).alloc (.cells #[.slice (some ⟨w.heap.size + 1, 0, none⟩) 4 4, .int .i64 2, .int .i64 14] 26)) (w.heap.size + 1 + 1) (some ⟨w.heap.size, 0, none⟩) 1 1 1 10 [0] ∧ Bx ((((w.alloc (.cells #[.int .i64 0] 3)).alloc (.cells #[.int .i64 0, .int .i64 14, .int .i64 14, .int .i64 28] 3)).alloc (.cells #[.slice (some ⟨w.heap.size, 0, none⟩) 1 1, .int .i64 1, .int .i64 10] 26)).alloc (.cells #[.slice (some ⟨w.heap.size + 1, 0, none⟩) 4 4, .int .i64 2, .int .i64 14] 26)) (w.heap.size + 1 + 1 + 1) (some ⟨w.heap.size + 1, 0, none⟩) 4 4 2 14 [0, 14, 14, 28] ∧ Below w.heap.size w ((((w.alloc (.cells #[.int .i64 0] 3)).alloc (.cells #[.int .i64 0, .int .i64 14, .int .i64 14, .int .i64 28] 3)).alloc (.cells #[.slice (some ⟨w.heap.size, 0, none⟩) 1 1, .int .i64 1, .int .i64 10] 26)).alloc (.cells #[.slice (some ⟨w.heap.size + 1, 0, none⟩) 4 4, .int .i64 2, .int .i64 14] 26)) := by
  have r1 := rowZ_lit w [0] 3 (by decide) (by decide)
  have r2 := rowZ_lit (w.alloc (.cells #[.int .i64 0] 3)) [0, 14, 14, 28] 3 (by decide) (by decide)
  have e1 : (w.alloc (.cells #[.int .i64 0] 3)).heap.size = w.heap.size + 1 := by simp
  rw [e1] at r2
  have b1 := Cur3.new ((w.alloc (.cells #[.int .i64 0] 3)).alloc (.cells #[.int .i64 0, .int .i64 14, .int .i64 14, .int .i64 28] 3)) (.slice (some ⟨w.heap.size, 0, none⟩) 1 1) (.int .i64 1) (.int .i64 10) 26
  rw [show ((w.alloc (.cells #[.int .i64 0] 3)).alloc (.cells #[.int .i64 0, .int .i64 14, .int .i64 14, .int .i64 28] 3)).heap.size = w.heap.size + 1 + 1 by simp] at b1
  have b2 := Cur3.new (((w.alloc (.cells #[.int .i64 0] 3)).alloc (.cells #[.int .i64 0, .int .i64 14, .int .i64 14, .int .i64 28] 3)).alloc (.cells #[.slice (some ⟨w.heap.size, 0, none⟩) 1 1, .int .i64 1, .int .i64 10] 26)) (.slice (some ⟨w.heap.size + 1, 0, none⟩) 4 4) (.int .i64 2) (.int .i64 14) 26
  rw [show (((w.alloc (.cells #[.int .i64 0] 3)).alloc (.cells #[.int .i64 0, .int .i64 14, .int .i64 14, .int .i64 28] 3)).alloc (.cells #[.slice (some ⟨w.heap.size, 0, none⟩) 1 1, .int .i64 1, .int .i64 10] 26)).heap.size = w.heap.size + 1 + 1 + 1 by simp] at b2
  exact ⟨⟨b1.alloc _, ((r1.alloc _).alloc _).alloc _⟩, ⟨b2, (r2.alloc _).alloc _⟩, ((((Below.refl _ _).alloc (Nat.le_refl _) _).alloc (by simp) _).alloc (by simp; omega) _).alloc (by simp; omega) _⟩

def wants : List Int := [0, 0, 6, 6, 12, 12, 18]
theorem wants_at : ∀ k, k < 7 → wants.getD k 0 = 3 * ((k : Int) - ((k % 2 : Nat) : Int)) := by decide

set_option maxRecDepth 100000 in
set_option maxHeartbeats 3200000 in
theorem awake6 (w : World) : Calls Try.prog 26 #[] w (Says (.bool true) w) := by
  obtain ⟨l1, l2, l3⟩ := lits6 w
  have Xf := Lib.hid l1
  have Xg := Lib.hid l2
  have HB := Lib.hid l3
  clear l1 l2 l3
  go_enter Try.func26, Try.ntmps26
  go_wp2_with fail
  generalize ((((w.alloc (.cells #[.int .i64 0] 3)).alloc (.cells #[.int .i64 0, .int .i64 14, .int .i64 14, .int .i64 28] 3)).alloc (.cells #[.slice (some ⟨w.heap.size, 0, none⟩) 1 1, .int .i64 1, .int .i64 10] 26)).alloc (.cells #[.slice (some ⟨w.heap.size + 1, 0, none⟩) 4 4, .int .i64 2, .int .i64 14] 26)) = w0 at Xf Xg HB ⊢
  refine ((mrest_at (some ⟨w.heap.size, 0, none⟩) 1 1 [0] 1 10 r0_good (some ⟨w.heap.size + 1, 0, none⟩) 4 4 [0, 14, 14, 28] 2 14 r1_good (by omega) (by omega) rfl _ Xf.out.row Xg.out.row).mono fun _ _ h => h.ok ex_rest_can).mono ?_
  rintro e v1 ⟨a1, n1, cap1, z1, p1, i1, rfl, hb, hr, hf, hx⟩
  obtain ⟨w1, hw⟩ : ∃ W, v1.alloc (.cells #[.slice a1 n1 cap1, .int .i64 p1, .int .i64 i1] 26) = W := ⟨_, rfl⟩
  have hz : Below w0.heap.size w0 w1 := by rw [← hw]; exact hb.trans ((below_box _).mono hb.size)
  have Xf1 := Lib.hid (Xf.out.under hz)
  have Xg1 := Lib.hid (Xg.out.under hz)
  have HB1 := Lib.hid (HB.out.trans (hz.mono HB.out.size))
  have Xr1 := Lib.hid (show Bx w1 v1.heap.size a1 n1 cap1 p1 i1 z1 by rw [← hw]; exact Bx.new hr)
  have HFr := Lib.hid hf
  have hw1 := hw
  obtain ⟨c0, c1, c2, c3, c4, c5⟩ := Xf1.out.box
  obtain ⟨d0, d1, d2, d3, d4, d5⟩ := Xg1.out.box
  clear hb hr hf hx hz hw
  go_wp2_with fail
  try rw [hw1]
  clear hw1 c0 c1 c2 c3 c4 c5 d0 d1 d2 d3 d4 d5
  refine ((mabove_at (some ⟨w.heap.size, 0, none⟩) 1 1 [0] 1 10 r0_good (some ⟨w.heap.size + 1, 0, none⟩) 4 4 [0, 14, 14, 28] 2 14 r1_good (by omega) (by omega) rfl _ Xf1.out.row Xg1.out.row).mono fun _ _ h => h.ok ex_above_can).mono ?_
  rintro e v2 ⟨a2, n2, cap2, z2, p2, i2, rfl, hb, hr, hf, hx⟩
  obtain ⟨w2, hw⟩ : ∃ W, v2.alloc (.cells #[.slice a2 n2 cap2, .int .i64 p2, .int .i64 i2] 26) = W := ⟨_, rfl⟩
  have hz : Below w1.heap.size w1 w2 := by rw [← hw]; exact hb.trans ((below_box _).mono hb.size)
  have Xr2 := Lib.hid (Xr1.out.under hz)
  have HB2 := Lib.hid (HB1.out.trans (hz.mono HB1.out.size))
  have Xa2 := Lib.hid (show Bx w2 v2.heap.size a2 n2 cap2 p2 i2 z2 by rw [← hw]; exact Bx.new hr)
  have HFa := Lib.hid hf
  have hl := rowZ_lit w2 wants 3 (by decide) (by decide)
  have hbl : Below w2.heap.size w2 (w2.alloc (.cells #[.int .i64 0, .int .i64 0, .int .i64 6, .int .i64 6, .int .i64 12, .int .i64 12, .int .i64 18] 3)) := below_box _
  have HL3 := Lib.hid (show RowZ (w2.alloc (.cells #[.int .i64 0, .int .i64 0, .int .i64 6, .int .i64 6, .int .i64 12, .int .i64 12, .int .i64 18] 3)) (some ⟨w2.heap.size, 0, none⟩) 7 7 wants from hl)
  have Xr3 := Lib.hid (Xr2.out.under hbl)
  have Xa3 := Lib.hid (Xa2.out.under hbl)
  have HB3 := Lib.hid (HB2.out.trans (hbl.mono HB2.out.size))
  have hw2 := hw
  clear hb hr hf hx hz hw hl hbl
  go_wp2_with fail
  try rw [hw2]
  clear hw2
  generalize w2.alloc (.cells #[.int .i64 0, .int .i64 0, .int .i64 6, .int .i64 6, .int .i64 12, .int .i64 12, .int .i64 18] 3) = w3 at HL3 Xr3 Xa3 HB3 ⊢
  go_loopw [27] (fun s27 wx => ∃ k : Nat, s27 = .int .i64 k ∧ k ≤ 7 ∧ Hid (Below w3.heap.size w3 wx)) (fun s27 _ => 7 - (intOf s27).toNat)
  case atStart => exact ⟨0, by go_num, by omega, Below.refl _ _⟩
  case round =>
    obtain ⟨k, rfl, hk, HBk⟩ := hrel
    obtain ⟨wk, rfl⟩ : ∃ u : World, u = wr := ⟨_, rfl⟩
    by_cases hlt : k < 7
    · have hlti : (k : Int) < 7 := by omega
      obtain ⟨x, hxx, ck⟩ := (HL3.out.under HBk.out).cell k hlt
      cases hxx
      obtain ⟨vv, hvv⟩ : ∃ v, wants.getD k 0 = v := ⟨_, rfl⟩
      rw [hvv] at ck
      have ck : wk.cell? ⟨w2.heap.size, k, none⟩ = some (.int .i64 vv) := by
        have e : ((⟨w2.heap.size, 0, none⟩ : Addr).add k) = ⟨w2.heap.size, k, none⟩ := by unfold Addr.add; by_cases h0 : k = 0 <;> simp [h0]
        rw [← e]; exact ck
      have HVV := Lib.hid (show atC z1 p1 i1 k = vv from HFr.out.at (by rw [ex_rest, ← wants_at k hlt, hvv]))
      obtain ⟨c0, c1, c2, c3, c4, c5⟩ := (Xr3.out.under HBk.out).box
      clear hvv
      go_wp2_with fail
      clear c0 c1 c2 c3 c4 c5 ck
      refine (valid_e a1 n1 cap1 z1 p1 i1 HFr.out.good _ (Xr3.out.under HBk.out).row).mono ?_
      rintro e w4 ⟨rfl, hb⟩
      have HB4 := Lib.hid (HBk.out.trans (hb.mono HBk.out.size))
      clear hb
      obtain ⟨c0, c1, c2, c3, c4, c5⟩ := (Xr3.out.under HB4.out).box
      go_wp2_with fail
      clear c0 c1 c2 c3 c4 c5
      refine (rat_at a1 n1 cap1 z1 p1 i1 HFr.out.good _ k rfl (by omega) vv HVV.out _ (Xr3.out.under HB4.out).row).mono ?_
      rintro e w5 ⟨rfl, hb⟩
      have HB5 := Lib.hid (HB4.out.trans (hb.mono HB4.out.size))
      clear hb
      go_wp2_with fail
      go_roundw
      case rel => exact ⟨k + 1, by go_num, by omega, HB5⟩
      case measure => simp [intOf]; omega
    · obtain rfl : k = 7 := by omega
      obtain ⟨c0, c1, c2, c3, c4, c5⟩ := (Xr3.out.under HBk.out).box
      go_wp2_with fail
      clear c0 c1 c2 c3 c4 c5
      refine (valid_e a1 n1 cap1 z1 p1 i1 HFr.out.good _ (Xr3.out.under HBk.out).row).mono ?_
      rintro e w4 ⟨rfl, hb⟩
      have HB4 := Lib.hid (HBk.out.trans (hb.mono HBk.out.size))
      clear hb
      obtain ⟨c0, c1, c2, c3, c4, c5⟩ := (Xa3.out.under HB4.out).box
      go_wp2_with fail
      clear c0 c1 c2 c3 c4 c5
      refine (valid_e a2 n2 cap2 z2 p2 i2 HFa.out.good _ (Xa3.out.under HB4.out).row).mono ?_
      rintro e w5 ⟨rfl, hb⟩
      have HB5 := Lib.hid (HB4.out.trans (hb.mono HB4.out.size))
      clear hb
      obtain ⟨c0, c1, c2, c3, c4, c5⟩ := (Xa3.out.under HB5.out).box
      go_wp2_with fail
      clear c0 c1 c2 c3 c4 c5
      refine (rat_at a2 n2 cap2 z2 p2 i2 HFa.out.good 2 2 rfl (by omega) 2 (HFa.out.at (by rw [ex_above]; decide)) _ (Xa3.out.under HB5.out).row).mono ?_
      rintro e w6 ⟨rfl, hb⟩
      have HB6 := Lib.hid (HB5.out.trans (hb.mono HB5.out.size))
      clear hb
      obtain ⟨c0, c1, c2, c3, c4, c5⟩ := (Xa3.out.under HB6.out).box
      go_wp2_with fail
      clear c0 c1 c2 c3 c4 c5
      refine (rat_at a2 n2 cap2 z2 p2 i2 HFa.out.good 5 5 rfl (by omega) 8 (HFa.out.at (by rw [ex_above]; decide)) _ (Xa3.out.under HB6.out).row).mono ?_
      rintro e w7 ⟨rfl, hb⟩
      have HB7 := Lib.hid (HB6.out.trans (hb.mono HB6.out.size))
      clear hb
      obtain ⟨c0, c1, c2, c3, c4, c5⟩ := (Xa3.out.under HB7.out).box
      go_wp2_with fail
      clear c0 c1 c2 c3 c4 c5
      refine (rat_at a2 n2 cap2 z2 p2 i2 HFa.out.good 6 6 rfl (by omega) 14 (HFa.out.at (by rw [ex_above]; decide)) _ (Xa3.out.under HB7.out).row).mono ?_
      rintro e w8 ⟨rfl, hb⟩
      have HB8 := Lib.hid (HB7.out.trans (hb.mono HB7.out.size))
      clear hb
      have HZ := Lib.hid (HB3.out.trans (HB8.out.mono HB3.out.size))
      go_wp2_with fail
      go_ret
      exact ⟨rfl, HZ.out⟩

end Go.Proofs.Ytknimlpdpgpliaa

namespace Go.Proofs.Ytknimlpdpgpliaa
open Go.RowKit
set_option linter.unusedSimpArgs false
set_option linter.unusedVariables false

section
variable (a1 : Option Addr) (n1 cap1 : Nat) (z1 : List Int) (p1 : Nat) (i1 : Int) (g1 : Good z1 p1 i1) (a2 : Option Addr) (n2 cap2 : Nat) (z2 : List Int) (p2 : Nat) (i2 : Int) (g2 : Good z2 p2 i2) (h1 : Day (eC z1 p1 i1)) (h2 : Day (eC z2 p2 i2))
    (w : World) (r1 : RowZ w a1 n1 cap1 z1) (r2 : RowZ w a2 n2 cap2 z2)
include g1 g2 h1 h2 r1 r2
theorem rest_day : Calls Try.prog 21 #[curV a1 n1 cap1 p1 i1, curV a2 n2 cap2 p2 i2] w (GivesE (eRest z1 p1 i1 z2 p2 i2) w) := by
  obtain ⟨L, hL, hl⟩ := lcm_day g1 g2 h1 h2
  exact rest_ok a1 n1 cap1 z1 p1 i1 g1 a2 n2 cap2 z2 p2 i2 g2 L hl hL w r1 r2
theorem above_day : Calls Try.prog 22 #[curV a1 n1 cap1 p1 i1, curV a2 n2 cap2 p2 i2] w (GivesE (eAbove z1 p1 i1 z2 p2 i2) w) := by
  obtain ⟨L, hL, hl⟩ := lcm_day g1 g2 h1 h2
  exact above_ok a1 n1 cap1 z1 p1 i1 g1 a2 n2 cap2 z2 p2 i2 g2 L hl hL w r1 r2
theorem rsum_day : Calls Try.prog 30 #[curV a1 n1 cap1 p1 i1, curV a2 n2 cap2 p2 i2] w (GivesE (eSum z1 p1 i1 z2 p2 i2) w) := by
  obtain ⟨L, hL, hl⟩ := lcm_day g1 g2 h1 h2
  exact rsum_ok a1 n1 cap1 z1 p1 i1 g1 a2 n2 cap2 z2 p2 i2 g2 L hl hL w r1 r2
end

section
variable {zs ys xs : List Int} {p q r : Nat} {inc jnc knc : Int}
theorem dif_more (h : ∀ t, ole (eC zs p inc t) (eC xs r knc t)) (t : Nat) : ole (eDif zs p inc ys q jnc t) (eDif xs r knc ys q jnc t) := ole_osub (h t) (ole_refl _)
theorem dif_less (h : ∀ t, ole (eC ys q jnc t) (eC xs r knc t)) (t : Nat) : ole (eDif zs p inc xs r knc t) (eDif zs p inc ys q jnc t) := ole_osub (ole_refl _) (h t)
theorem rest_more (h : ∀ t, ole (eC zs p inc t) (eC xs r knc t)) (t : Nat) : ole (eRest zs p inc ys q jnc t) (eRest xs r knc ys q jnc t) := maxO_le (dif_more h) t
theorem rest_less (h : ∀ t, ole (eC ys q jnc t) (eC xs r knc t)) (t : Nat) : ole (eRest zs p inc xs r knc t) (eRest zs p inc ys q jnc t) := maxO_le (dif_less h) t
theorem above_more (h : ∀ t, ole (eC zs p inc t) (eC xs r knc t)) (t : Nat) : ole (eAbove zs p inc ys q jnc t) (eAbove xs r knc ys q jnc t) := minO_all (fun _ _ => eDif_nn) (fun _ _ => eDif_nn) (dif_more h) t
theorem above_less (h : ∀ t, ole (eC ys q jnc t) (eC xs r knc t)) (t : Nat) : ole (eAbove zs p inc xs r knc t) (eAbove zs p inc ys q jnc t) := minO_all (fun _ _ => eDif_nn) (fun _ _ => eDif_nn) (dif_less h) t
end

end Go.Proofs.Ytknimlpdpgpliaa
