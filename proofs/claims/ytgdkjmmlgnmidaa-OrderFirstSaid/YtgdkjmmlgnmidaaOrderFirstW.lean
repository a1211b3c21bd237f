/- The walk of OrderFirst. By the verifier's side. -/
import Derived.Test.YtgdkjmmlgnmidaaZeros
namespace Go.Proofs.Ytgdkjmmlgnmidaa
open Go.RowKit
set_option linter.unusedSimpArgs false

theorem far_good {ls : List Int} (hl : ls.length = 4) (h : ∀ i, i < 4 → ls.getD i 0 = 2000 * (i : Int)) {P : Nat} (hP : 1 ≤ P) (hP3 : P ≤ 3) {r : Int} (h0 : 0 ≤ r) (h4 : r < 4) : Good ls P (6000 - 2000 * ((4 - P : Nat) : Int) + r) ∧ ¬ InfC ls := by
  have hb : ∀ i, i < 4 → 0 ≤ ls.getD i 0 ∧ ls.getD i 0 ≤ 6000 := fun i hi => by rw [h i hi]; omega
  have hlast : ¬ InfC ls := by rw [infC_iff, hl]; have := hb 3 (by omega); show ¬ ls.getD 3 0 = infV; unfold infV; omega
  refine ⟨⟨by omega, hP, by omega, by omega, by omega, by omega, fun i hi => ?_, fun i hi => ?_, fun hx => absurd hx hlast, fun _ => ?_⟩, hlast⟩
  · have := hb i (by omega); exact .inl (by omega)
  · rw [h i (by omega), h (i + 1) (by omega)]; omega
  · rw [hl, h 3 (by omega), h (4 - P) (by omega)]; omega

/-- What stands while the second curve is made of four far values. -/
structure Fz (w : World) (b : Nat) (a : Option Addr) (n cap F gA G gC capC P : Nat) (ls : List Int) (wx : World) : Prop where
  held : Held w b a n cap wx
  bf : Cur3 wx F (.slice (some ⟨gA, 0, none⟩) 1 1) (.int .i64 1) (.int .i64 3)
  rf : RowZ wx (some ⟨gA, 0, none⟩) 1 1 [0]
  bg : Cur3 wx G (.slice (some ⟨gC, 0, none⟩) 4 capC) (.int .i64 P) (.int .i64 3)
  row : wx.ownsRow w.heap.size 3 1 (.slice (some ⟨gC, 0, none⟩) 4 capC) 4 (ls.map (Value.int .i64))
  hb : b < w.heap.size
  hF : w.heap.size ≤ F
  hG : w.heap.size ≤ G
  hFG : ¬ F = G
  hA : w.heap.size ≤ gA
  hC : w.heap.size ≤ gC
  d1 : ¬ gC = G
  d2 : ¬ gC = F
  d3 : ¬ gC = gA
  d4 : ¬ gA = G
section
variable {w u v : World} {b : Nat} {a : Option Addr} {n cap F gA G gC capC P : Nat} {ls : List Int}
theorem Fz.call (h : Fz w b a n cap F gA G gC capC P ls u) (hs : SrcAt v b a n cap) (ha : Apart b u v) : Fz w b a n cap F gA G gC capC P ls v := by
  have h1 := h.hb; have h2 := h.hF; have h3 := h.hG; have h4 := h.hA; have h5 := h.hC
  exact ⟨h.held.call hs ha, h.bf.apart ha (by omega), h.rf.apart ha (fun x hx => by cases hx; show ¬ gA = b; omega), h.bg.apart ha (by omega), owns_apart h.row ha h1, h1, h2, h3, h.hFG, h4, h5, h.d1, h.d2, h.d3, h.d4⟩
theorem Fz.below (h : Fz w b a n cap F gA G gC capC P ls u) (hb : Below u.heap.size u v) : Fz w b a n cap F gA G gC capC P ls v :=
  ⟨h.held.below hb, h.bf.below hb, h.rf.under hb, h.bg.below hb, owns_apart h.row (below_apart hb) h.hb, h.hb, h.hF, h.hG, h.hFG, h.hA, h.hC, h.d1, h.d2, h.d3, h.d4⟩
theorem Fz.drew (h : Fz w b a n cap F gA G gC capC P ls u) : Fz w b a n cap F gA G gC capC P ls u.drew := h.below (Below.refl _ _).drew
theorem Fz.put (h : Fz w b a n cap F gA G gC capC P ls u) (k : Nat) (z : Int) : Fz w b a n cap F gA G gC capC P (ls.set k z) (u.setCell ⟨gC, k, none⟩ (.int .i64 z)) := by
  have h1 := h.hb; have h2 := h.hF; have h3 := h.hG; have h4 := h.hA; have h5 := h.hC; have e1 := h.d1; have e2 := h.d2; have e3 := h.d3
  exact ⟨h.held.set h1 (p := ⟨gC, k, none⟩) h5 _, h.bf.other (fun e => e2 e.symm) _ _, h.rf.store (fun x hx _ => by cases hx; show ¬ gA = gC; omega) _ _, h.bg.other (fun e => e1 e.symm) _ _, by rw [List.map_set]; exact (h.row.stored k _).1, h1, h2, h3, h.hFG, h4, h5, e1, e2, e3, h.d4⟩
abbrev FzS (w : World) (b : Nat) (a : Option Addr) (n cap F gA G gC capC P : Nat) (ls : List Int) (wx : World) : Prop :=
  wx.cell? ⟨G, 0, none⟩ = some (.slice (some ⟨gC, 0, none⟩) 4 capC) ∧ wx.cell? ⟨G, 1, none⟩ = some (.int .i64 P) ∧ (∀ i, i < 4 → wx.cell? ⟨gC, i, none⟩ = some (.int .i64 (ls.getD i 0))) ∧ Hid (Fz w b a n cap F gA G gC capC P ls wx)
end

theorem first_math {d : Nat → Int} {t : Int} {ok : Bool} (h : ExcP d t ok) : (ok = false → t = 0 ∧ AtM true d) ∧ (ok = true → ∃ T : Nat, t = T ∧ 0 < d T ∧ (∀ u, u < T → d u ≤ 0) ∧ AtM false d) := by
  rcases h with ⟨rfl, T, rfl, h1, h2⟩ | ⟨rfl, rfl, h1⟩
  · exact ⟨(fun h => by cases h), fun _ => ⟨T, rfl, h1, h2, ⟨(fun h => by cases h), fun h => by have := h T; omega⟩⟩⟩
  · exact ⟨fun _ => ⟨rfl, ⟨fun _ => h1, fun _ => rfl⟩⟩, (fun h => by cases h)⟩

set_option maxRecDepth 100000 in
set_option maxHeartbeats 16000000 in
theorem orderFirst_walk (W : World) (a : Option Addr) (n cap : Nat) (hrow : RowAt W a n cap) (at' : Int) (hat : In64 at') :
    Calls Try.prog 4 #[.slice a n cap, .int .i64 at'] W fun e w' => e = .returned (.bool true) ∧ Below W.heap.size W w' := by
  have HR := Lib.hid hrow
  have HAT := Lib.hid hat
  clear hrow hat
  go_enter Try.func4, Try.ntmps4
  go_wp2_with fail
  refine (new_any a n cap _ HR.out).mono ?_
  rintro e w1 ⟨rfl, hb1, hz1, ra, rn, rc, hs1⟩
  have HB1 := Lib.hid hb1
  have HS1 := Lib.hid hs1
  have Z1 := Lib.hid hz1
  clear hb1 hz1 hs1
  go_wp2_with fail
  refine (curve_any 7 (by omega) (by omega) _ ra rn rc _ HS1.out).mono ?_
  rintro e w2 ⟨a1, n1, cap1, zs, p, inc, rfl, hs2, he2, hr2, ok1, hx2⟩
  have OK := Lib.hid ok1
  have HS2 := Lib.hid hs2
  have HR2 := Lib.hid hr2
  have HX2 := Lib.hid (show ∀ x, a1 = some x → ¬ x.block = W.heap.size from fun x hx => by have := hx2 x hx; have := Z1.out; omega)
  have HB2 := Lib.hid (HB1.out.trans (he2.below (Nat.le_refl _) HB1.out.size))
  have hsz2 := Lib.hid he2.size
  clear hs2 he2 hr2 ok1 hx2
  go_wp2_with fail
  refine (curve_any 7 (by omega) (by omega) _ ra rn rc _ HS2.out).mono ?_
  rintro e w3 ⟨a2, n2, cap2, ys, q, jnc, rfl, hs3, he3, hr3, ok3, hx3⟩
  have OK3 := Lib.hid ok3
  have HB3 := Lib.hid (HB2.out.trans (he3.below (Nat.le_refl _) HB2.out.size))
  have hn1 : 1 ≤ n1 := by have := ok_pos OK.out; have := HR2.out.len; omega
  have R1 := HR2.out.apart he3 HX2.out
  have hxf : ∀ x, a1 = some x → ¬ x.block = W.heap.size ∧ ¬ x.block = w3.heap.size + 1 := fun x hx => ⟨HX2.out x hx, by have := row_lt R1 hn1 x hx; omega⟩
  have hxg : ∀ x, a2 = some x → ¬ x.block = W.heap.size := fun x hx => by have := hx3 x hx; have := hsz2.out; have := Z1.out; omega
  have C3 := Lib.hid (show Ce w3 W.heap.size ra rn rc w3.heap.size a1 n1 cap1 p inc zs (w3.heap.size + 1) a2 n2 cap2 q jnc ys ((w3.alloc (.cells #[.slice a1 n1 cap1, .int .i64 p, .int .i64 inc] 24)).alloc (.cells #[.slice a2 n2 cap2, .int .i64 q, .int .i64 jnc] 24)) from
    ⟨((Held.start hs3).alloc _).alloc _, (Cur3.new w3 _ _ _ _).alloc _, (R1.alloc _).alloc _, Cur3.new2 w3 _ _ _ _ _, (hr3.alloc _).alloc _, hs3.lt, Nat.le_refl _, Nat.le_succ _, by omega, hxf, hxg⟩)
  have HS3 := Lib.hid hs3
  have G1 := Lib.hid OK.out.good
  have K1 := Lib.hid ok3.good
  clear hs3 he3 hr3 ok3 hx3 hxf hxg R1 hn1 OK OK3
  go_wp2_with fail
  generalize (w3.alloc (.cells #[.slice a1 n1 cap1, .int .i64 p, .int .i64 inc] 24)).alloc (.cells #[.slice a2 n2 cap2, .int .i64 q, .int .i64 jnc] 24) = w4 at C3 ⊢
  refine (n_any 4 (by omega) (by omega) W.heap.size ra rn rc _ (C3.out.held.at HS3.out)).mono ?_
  rintro e w6 ⟨m, hm, rfl, hs, he⟩
  have C6 := Lib.hid (C3.out.call hs he.apart)
  clear hs he hm C3
  go_upto_if 23 with fail
  go_cut [] (fun wx => ∃ (a1 : Option Addr) (n1 cap1 p : Nat) (inc : Int) (zs : List Int) (a2 : Option Addr) (n2 cap2 q : Nat) (jnc : Int) (ys : List Int), Hid (Good zs p inc) ∧ Hid (Good ys q jnc) ∧ Hid (Ce w3 W.heap.size ra rn rc w3.heap.size a1 n1 cap1 p inc zs (w3.heap.size + 1) a2 n2 cap2 q jnc ys wx))
  case first =>
    by_cases hr0 : m = 0
    · have t0 : (m == 0) = true := by simpa using hr0
      clear hr0
      obtain ⟨i0, hi, hz0, hz1, hz2⟩ := info_parts info_int
      obtain ⟨c0, c1, c2, f0, f1, f2⟩ := C6.out.bf
      obtain ⟨l1, l2, l3, l4⟩ := lt5' C6.out.bf.lt
      obtain ⟨m1', m2', m3', m4'⟩ := lt5' C6.out.bg.lt
      have hw36 := C6.out.held.ap.size
      have hbW := C6.out.hb
      go_wp2_with fail
      clear c0 c1 c2 f0 f1 f2 l1 l2 l3 m1' m2' m3'
      have HDs := Lib.hid (((C6.out.held.set hbW (p := ⟨w3.heap.size, 0, none⟩) (Nat.le_refl _) (.slice (some ⟨w6.heap.size, 0, none⟩) 1 1)).set hbW (p := ⟨w3.heap.size, 1, none⟩) (Nat.le_refl _) (.int .i64 1)).set hbW (p := ⟨w3.heap.size, 2, none⟩) (Nat.le_refl _) (.int .i64 3))
      have BFs := Lib.hid (C6.out.bf.set (.slice (some ⟨w6.heap.size, 0, none⟩) 1 1) (.int .i64 1) (.int .i64 3))
      have BGs := Lib.hid (((C6.out.bg.other (q := w3.heap.size) (by omega) 0 (.slice (some ⟨w6.heap.size, 0, none⟩) 1 1)).other (q := w3.heap.size) (by omega) 1 (.int .i64 1)).other (q := w3.heap.size) (by omega) 2 (.int .i64 3))
      have hszS : (((w6.setCell ⟨w3.heap.size, 0, none⟩ (.slice (some ⟨w6.heap.size, 0, none⟩) 1 1)).setCell ⟨w3.heap.size, 1, none⟩ (.int .i64 1)).setCell ⟨w3.heap.size, 2, none⟩ (.int .i64 3)).heap.size = w6.heap.size := by simp
      generalize ((w6.setCell ⟨w3.heap.size, 0, none⟩ (.slice (some ⟨w6.heap.size, 0, none⟩) 1 1)).setCell ⟨w3.heap.size, 1, none⟩ (.int .i64 1)).setCell ⟨w3.heap.size, 2, none⟩ (.int .i64 3) = wS at HDs BFs BGs hszS ⊢
      obtain ⟨capC, hcap⟩ : ∃ c, (Question.appendCap 4 1 3).cut (w6.tape w6.drawn (Question.appendCap 4 1 3)) = c := ⟨_, rfl⟩
      have hc4 : 4 ≤ capC := by rw [← hcap]; exact grownCap_ge w6 4 1 3
      have hcM : capC ≤ maxLen := by rw [← hcap]; exact grownCap_le_maxLen w6 4 1 3 (by unfold maxLen; omega)
      rw [hcap]
      clear hcap
      obtain ⟨gA, hgAe⟩ : ∃ g, w6.heap.size = g := ⟨_, rfl⟩
      rw [hgAe] at BFs hszS hw36 l4 m4' ⊢
      have hX : Below wS.heap.size wS (((wS.alloc (.cells #[.int .i64 0] 3)).alloc (.cells #[.int .i64 0] 3)).alloc (.cells (zRow capC) 3)).drew := ((((Below.refl _ _).alloc (Nat.le_refl _) _).alloc (by simp) _).alloc (by simp; omega) _).drew
      have hRW := zeros_own wS w3.heap.size (by omega) capC hc4 hcM
      have hRF := ((rowZ_lit wS [0] 3 (by decide) (by decide)).under ((((Below.refl _ _).alloc (Nat.le_refl _) (.cells #[.int .i64 0] 3)).alloc (by simp) (.cells (zRow capC) 3)).drew))
      rw [hszS] at hRW hRF
      have HX := Lib.hid hX
      have RW := Lib.hid hRW
      have RFw := Lib.hid hRF
      change Hid (RowZ (((wS.alloc (.cells #[.int .i64 0] 3)).alloc (.cells #[.int .i64 0] 3)).alloc (.cells (zRow capC) 3)).drew (some ⟨gA, 0, none⟩) 1 1 [0]) at RFw
      clear hX hRW hRF C6 hgAe
      change Calls _ _ _ (((wS.alloc (.cells #[.int .i64 0] 3)).alloc (.cells #[.int .i64 0] 3)).alloc (.cells (zRow capC) 3)).drew _
      generalize (((wS.alloc (.cells #[.int .i64 0] 3)).alloc (.cells #[.int .i64 0] 3)).alloc (.cells (zRow capC) 3)).drew = wg at HX RW RFw ⊢
      obtain ⟨gC, hgC⟩ : ∃ g, gA + 1 + 1 = g := ⟨_, rfl⟩
      rw [hgC] at RW ⊢
      refine (n_any 3 (by omega) (by omega) W.heap.size ra rn rc _ ((HDs.out.below HX.out).at HS3.out)).mono ?_
      rintro e wn ⟨m2, ⟨hm20, hm21⟩, rfl, hs, he⟩
      obtain ⟨P, hP⟩ : ∃ P : Nat, 1 + m2 = (P : Int) := ⟨(1 + m2).toNat, by omega⟩
      have hP1 : 1 ≤ P := by omega
      have hP3 : P ≤ 3 := by omega
      have hDn := (HDs.out.below HX.out).call hs he.apart
      have hBn := (BGs.out.below HX.out).apart he.apart (by omega)
      have ZG := Lib.hid (show Fz w3 W.heap.size ra rn rc w3.heap.size gA (w3.heap.size + 1) gC capC P [0, 0, 0, 0] (((wn.setCell ⟨w3.heap.size + 1, 0, none⟩ (.slice (some ⟨gC, 0, none⟩) 4 capC)).setCell ⟨w3.heap.size + 1, 1, none⟩ (.int .i64 P)).setCell ⟨w3.heap.size + 1, 2, none⟩ (.int .i64 3)) from
        ⟨((hDn.set hbW (p := ⟨w3.heap.size + 1, 0, none⟩) (Nat.le_succ _) _).set hbW (p := ⟨w3.heap.size + 1, 1, none⟩) (Nat.le_succ _) _).set hbW (p := ⟨w3.heap.size + 1, 2, none⟩) (Nat.le_succ _) _,
          ((((BFs.out.below HX.out).apart he.apart (by omega)).other (by omega) _ _).other (by omega) _ _).other (by omega) _ _,
          (((RFw.out.apart he.apart (fun x hx => by cases hx; show ¬ gA = W.heap.size; omega)).store (fun x hx _ => by cases hx; show gA ≠ w3.heap.size + 1; omega) _ _).store (fun x hx _ => by cases hx; show gA ≠ w3.heap.size + 1; omega) _ _).store (fun x hx _ => by cases hx; show gA ≠ w3.heap.size + 1; omega) _ _,
          hBn.set _ _ _, owns_set3 (owns_apart RW.out he.apart hbW) (by omega) _ _ _, hbW, Nat.le_refl _, Nat.le_succ _, by omega, by omega, by omega, by omega, by omega, by omega, by omega⟩)
      obtain ⟨e0, e1, e2, k0, k1, k2⟩ := hBn
      clear hs he hDn HDs BFs BGs RFw RW HX
      go_wp2_with fail
      clear e0 e1 e2 k0 k1 k2
      generalize ((wn.setCell ⟨w3.heap.size + 1, 0, none⟩ (.slice (some ⟨gC, 0, none⟩) 4 capC)).setCell ⟨w3.heap.size + 1, 1, none⟩ (.int .i64 P)).setCell ⟨w3.heap.size + 1, 2, none⟩ (.int .i64 3) = wo at ZG ⊢
      go_loopw [35] (fun s35 wx => ∃ (k : Nat) (ls : List Int), s35 = .int .i64 k ∧ k ≤ 4 ∧ Hid (ls.length = 4 ∧ ∀ i, i < 4 → ls.getD i 0 = if i < k then 2000 * (i : Int) else 0) ∧ Hid (Fz w3 W.heap.size ra rn rc w3.heap.size gA (w3.heap.size + 1) gC capC P ls wx)) (fun s35 _ => 4 - (intOf s35).toNat)
      case atStart => exact ⟨0, [0, 0, 0, 0], by go_num, by omega, ⟨rfl, fun i hi => by
        rw [if_neg (Nat.not_lt_zero _)]
        have h4 : i = 0 ∨ i = 1 ∨ i = 2 ∨ i = 3 := by omega
        rcases h4 with rfl | rfl | rfl | rfl <;> rfl⟩, ZG⟩
      case round =>
        clear ZG
        obtain ⟨k, ls, rfl, hk, HLS, Z0⟩ := hrel
        obtain ⟨wz, rfl⟩ : ∃ u : World, u = wr := ⟨_, rfl⟩
        obtain ⟨e0, e1, e2, k0, k1, k2⟩ := Z0.out.bg
        by_cases hk4 : k < 4
        · have hk5 : (k : Int) < 4 := by omega
          have hk6 : (0 : Int) ≤ (k : Int) := by omega
          obtain ⟨Y, hY⟩ : ∃ Y, 2000 * (k : Int) = Y := ⟨_, rfl⟩
          have q1 : IntKind.i64.wrap (2000 * (k : Int)) = Y := by rw [hY]; exact IntWalk.i64_in _ ⟨by omega, by omega⟩
          have q2 : IntKind.i64.wrap Y = Y := IntWalk.i64_in _ ⟨by omega, by omega⟩
          have q3 : IntKind.i64.wrap (0 + Y) = Y := by rw [Int.zero_add]; exact q2
          have HY := Lib.hid hY
          have HS9 := Lib.hid (fun (u : World) (h : Fz w3 W.heap.size ra rn rc w3.heap.size gA (w3.heap.size + 1) gC capC P ls u) => (show u.cell? ⟨w3.heap.size + 1, 0, none⟩ = some (.slice (some ⟨gC, 0, none⟩) 4 capC) ∧ Hid (Fz w3 W.heap.size ra rn rc w3.heap.size gA (w3.heap.size + 1) gC capC P ls u) from ⟨h.bg.c0, h⟩))
          clear hY
          go_wp2_with fail
          clear e0 e1 e2 k0 k1 k2
          refine wp_region_keeps (fun u => u.cell? ⟨w3.heap.size + 1, 0, none⟩ = some (.slice (some ⟨gC, 0, none⟩) 4 capC) ∧ Hid (Fz w3 W.heap.size ra rn rc w3.heap.size gA (w3.heap.size + 1) gC capC P ls u)) 8 2 (by kernel_rfl) (by kernel_rfl) (HS9.out _ Z0.out.drew) (fun hHeld0 => ?_)
          refine wpAnyK_take (i := 0) (v := ?_) rfl (by kernel_rfl) (fun _ _ _ h => h) (Or.inl ⟨by rfl, ?_⟩) (by assumption) ?_
          rotate_left
          · (intro w hSw; (try dsimp only at hSw); go_simp; try with_reducible rfl)
          try simp only [Act.put, List.getElem_toArray, List.getElem_cons_zero, List.getElem_cons_succ, List.setIfInBounds_toArray, List.set_cons_zero, List.set_cons_succ]
          refine wpAnyK_take (i := 1) (v := ?_) rfl (by kernel_rfl) (fun _ _ _ h => h) (Or.inl ⟨by rfl, ?_⟩) (by assumption) ?_
          rotate_left
          · (intro w hSw; (try dsimp only at hSw); go_simp; try with_reducible rfl)
          try simp only [Act.put, List.getElem_toArray, List.getElem_cons_zero, List.getElem_cons_succ, List.setIfInBounds_toArray, List.set_cons_zero, List.set_cons_succ]
          refine wpAnyK_take (i := 2) (v := ?_) rfl (by kernel_rfl) (fun _ _ _ h => h) (Or.inl ⟨by rfl, ?_⟩) (by assumption) ?_
          rotate_left
          · (intro w hSw; (try dsimp only at hSw); go_simp; try with_reducible rfl)
          try simp only [Act.put, List.getElem_toArray, List.getElem_cons_zero, List.getElem_cons_succ, List.setIfInBounds_toArray, List.set_cons_zero, List.set_cons_succ]
          refine wpAnyK_take (i := 3) (v := ?_) rfl (by kernel_rfl) (fun _ _ _ h => h) (Or.inl ⟨by rfl, ?_⟩) (by assumption) ?_
          rotate_left
          · (intro w hSw; (try dsimp only at hSw); go_simp; try with_reducible rfl)
          try simp only [Act.put, List.getElem_toArray, List.getElem_cons_zero, List.getElem_cons_succ, List.setIfInBounds_toArray, List.set_cons_zero, List.set_cons_succ]
          refine wpAnyK_take (i := 5) (v := ?_) rfl (by kernel_rfl) (fun _ _ _ h => h) (Or.inl ⟨by rfl, ?_⟩) (by assumption) ?_
          rotate_left
          · (intro w hSw; (try dsimp only at hSw); go_simp; try with_reducible rfl)
          try simp only [Act.put, List.getElem_toArray, List.getElem_cons_zero, List.getElem_cons_succ, List.setIfInBounds_toArray, List.set_cons_zero, List.set_cons_succ]
          refine wpAnyK_take (i := 6) (v := ?_) rfl (by kernel_rfl) (fun _ _ _ h => h) (Or.inl ⟨by rfl, ?_⟩) (by assumption) ?_
          rotate_left
          · (intro w hSw; (try dsimp only at hSw); go_simp; try with_reducible rfl)
          try simp only [Act.put, List.getElem_toArray, List.getElem_cons_zero, List.getElem_cons_succ, List.setIfInBounds_toArray, List.set_cons_zero, List.set_cons_succ]
          refine wpAnyK_step (i := 4) rfl (by kernel_rfl) (fun K hK => ?_)
          go_simp
          with_reducible refine (n_any 1 (by omega) (by omega) W.heap.size ra rn rc _ (Z0.out.drew.held.at HS3.out)).mono ?_
          rintro e wp ⟨r1, ⟨hr10, hr11⟩, rfl, hs, he⟩
          have Z1 := Lib.hid (Z0.out.drew.call hs he.apart)
          obtain rfl : r1 = 0 := by omega
          clear hs he hr10 hr11
          refine hK.out _ _ (HS9.out _ Z1.out) (fun hHeld1 => ?_)
          clear hK K hHeld0
          try simp only [Act.put, List.getElem_toArray, List.getElem_cons_zero, List.getElem_cons_succ, List.setIfInBounds_toArray, List.set_cons_zero, List.set_cons_succ]
          refine wpAnyK_take (i := 7) (v := ?_) rfl (by kernel_rfl) (fun _ _ _ h => h) (Or.inl ⟨by rfl, ?_⟩) (by assumption) ?_
          rotate_left
          · (intro w hSw; (try dsimp only at hSw); go_simp; try with_reducible rfl)
          try simp only [Act.put, List.getElem_toArray, List.getElem_cons_zero, List.getElem_cons_succ, List.setIfInBounds_toArray, List.set_cons_zero, List.set_cons_succ]
          refine wpAnyK_done (by kernel_rfl) ?_
          simp only [List.drop_succ_cons, List.drop_zero]
          clear hHeld1
          have ck := owns_cell Z1.out.row (i := k) (by rw [HLS.out.1]; exact hk4)
          have fk := Z1.out.row.frozenAt k
          go_wp2_with fail
          refine ⟨⟨k + 1, ls.set k Y, by go_num, by omega, ⟨by rw [List.length_set]; exact HLS.out.1, fun i hi => ?_⟩, Z1.out.put k Y⟩, by simp [intOf]; omega⟩
          rw [getD_set (by rw [HLS.out.1]; exact hi)]
          by_cases he : k = i
          · subst he; rw [if_pos rfl, if_pos (by omega)]; exact HY.out.symm
          · rw [if_neg he, HLS.out.2 i hi]
            by_cases hik : i < k
            · rw [if_pos hik, if_pos (by omega)]
            · rw [if_neg hik, if_neg (by omega)]
        · obtain rfl : k = 4 := by omega
          obtain ⟨j, hj⟩ : ∃ j : Nat, 4 - P = j := ⟨_, rfl⟩
          have hj4 : j < 4 := by omega
          have q0 : (4 : Int) - (P : Int) = (j : Int) := by omega
          have q1 : IntKind.i64.wrap (j : Int) = (j : Int) := IntWalk.i64_in _ ⟨by omega, by omega⟩
          have q2 : (0 : Int) ≤ (j : Int) := by omega
          have q3 : (j : Int) < 4 := by omega
          obtain ⟨zj, hzj⟩ : ∃ z, 2000 * (j : Int) = z := ⟨_, rfl⟩
          obtain ⟨D1, hD1⟩ : ∃ D, 6000 - zj = D := ⟨_, rfl⟩
          have q4 : IntKind.i64.wrap (6000 - zj) = D1 := by rw [hD1]; exact IntWalk.i64_in _ ⟨by omega, by omega⟩
          have hD1b : 0 ≤ D1 ∧ D1 ≤ 6000 := by omega
          obtain ⟨hD10, hD11⟩ := hD1b
          have HJ := Lib.hid (And.intro hj (And.intro hzj hD1))
          have HS11 := Lib.hid (fun (u : World) (h : Fz w3 W.heap.size ra rn rc w3.heap.size gA (w3.heap.size + 1) gC capC P ls u) => (show u.cell? ⟨w3.heap.size + 1, 0, none⟩ = some (.slice (some ⟨gC, 0, none⟩) 4 capC) ∧ u.cell? ⟨w3.heap.size + 1, 1, none⟩ = some (.int .i64 P) ∧ u.cell? ⟨gC, 3, none⟩ = some (.int .i64 6000) ∧ u.cell? ⟨gC, j, none⟩ = some (.int .i64 zj) ∧ Hid (Fz w3 W.heap.size ra rn rc w3.heap.size gA (w3.heap.size + 1) gC capC P ls u) from ⟨h.bg.c0, h.bg.c1, by
            have := owns_cell h.row (i := 3) (by rw [HLS.out.1]; omega)
            rw [HLS.out.2 3 (by omega), if_pos (by omega)] at this
            exact this, by
            have := owns_cell h.row (i := j) (by rw [HLS.out.1]; exact hj4)
            rw [HLS.out.2 j hj4, if_pos hj4, HJ.out.2.1] at this
            exact this, h⟩))
          clear hj hzj hD1
          go_wp2_with fail
          clear e0 e1 e2 k0 k1 k2
          refine wp_region_keeps (fun u => u.cell? ⟨w3.heap.size + 1, 0, none⟩ = some (.slice (some ⟨gC, 0, none⟩) 4 capC) ∧ u.cell? ⟨w3.heap.size + 1, 1, none⟩ = some (.int .i64 P) ∧ u.cell? ⟨gC, 3, none⟩ = some (.int .i64 6000) ∧ u.cell? ⟨gC, j, none⟩ = some (.int .i64 zj) ∧ Hid (Fz w3 W.heap.size ra rn rc w3.heap.size gA (w3.heap.size + 1) gC capC P ls u)) 15 2 (by kernel_rfl) (by kernel_rfl) (HS11.out _ Z0.out.drew) (fun hHeld0 => ?_)
          refine wpAnyK_take (i := 0) (v := ?_) rfl (by kernel_rfl) (fun _ _ _ h => h) (Or.inl ⟨by rfl, ?_⟩) (by assumption) ?_
          rotate_left
          · (intro w hSw; (try dsimp only at hSw); go_simp; try with_reducible rfl)
          try simp only [Act.put, List.getElem_toArray, List.getElem_cons_zero, List.getElem_cons_succ, List.setIfInBounds_toArray, List.set_cons_zero, List.set_cons_succ]
          refine wpAnyK_take (i := 1) (v := ?_) rfl (by kernel_rfl) (fun _ _ _ h => h) (Or.inl ⟨by rfl, ?_⟩) (by assumption) ?_
          rotate_left
          · (intro w hSw; (try dsimp only at hSw); go_simp; try with_reducible rfl)
          try simp only [Act.put, List.getElem_toArray, List.getElem_cons_zero, List.getElem_cons_succ, List.setIfInBounds_toArray, List.set_cons_zero, List.set_cons_succ]
          refine wpAnyK_take (i := 2) (v := ?_) rfl (by kernel_rfl) (fun _ _ _ h => h) (Or.inl ⟨by rfl, ?_⟩) (by assumption) ?_
          rotate_left
          · (intro w hSw; (try dsimp only at hSw); go_simp; try with_reducible rfl)
          try simp only [Act.put, List.getElem_toArray, List.getElem_cons_zero, List.getElem_cons_succ, List.setIfInBounds_toArray, List.set_cons_zero, List.set_cons_succ]
          refine wpAnyK_take (i := 3) (v := ?_) rfl (by kernel_rfl) (fun _ _ _ h => h) (Or.inl ⟨by rfl, ?_⟩) (by assumption) ?_
          rotate_left
          · (intro w hSw; (try dsimp only at hSw); go_simp; try with_reducible rfl)
          try simp only [Act.put, List.getElem_toArray, List.getElem_cons_zero, List.getElem_cons_succ, List.setIfInBounds_toArray, List.set_cons_zero, List.set_cons_succ]
          refine wpAnyK_take (i := 4) (v := ?_) rfl (by kernel_rfl) (fun _ _ _ h => h) (Or.inl ⟨by rfl, ?_⟩) (by assumption) ?_
          rotate_left
          · (intro w hSw; (try dsimp only at hSw); go_simp; try with_reducible rfl)
          try simp only [Act.put, List.getElem_toArray, List.getElem_cons_zero, List.getElem_cons_succ, List.setIfInBounds_toArray, List.set_cons_zero, List.set_cons_succ]
          refine wpAnyK_take (i := 5) (v := ?_) rfl (by kernel_rfl) (fun _ _ _ h => h) (Or.inl ⟨by rfl, ?_⟩) (by assumption) ?_
          rotate_left
          · (intro w hSw; (try dsimp only at hSw); go_simp; try with_reducible rfl)
          try simp only [Act.put, List.getElem_toArray, List.getElem_cons_zero, List.getElem_cons_succ, List.setIfInBounds_toArray, List.set_cons_zero, List.set_cons_succ]
          refine wpAnyK_take (i := 6) (v := ?_) rfl (by kernel_rfl) (fun _ _ _ h => h) (Or.inl ⟨by rfl, ?_⟩) (by assumption) ?_
          rotate_left
          · (intro w hSw; (try dsimp only at hSw); go_simp; try with_reducible rfl)
          try simp only [Act.put, List.getElem_toArray, List.getElem_cons_zero, List.getElem_cons_succ, List.setIfInBounds_toArray, List.set_cons_zero, List.set_cons_succ]
          refine wpAnyK_take (i := 7) (v := ?_) rfl (by kernel_rfl) (fun _ _ _ h => h) (Or.inl ⟨by rfl, ?_⟩) (by assumption) ?_
          rotate_left
          · (intro w hSw; (try dsimp only at hSw); go_simp; try with_reducible rfl)
          try simp only [Act.put, List.getElem_toArray, List.getElem_cons_zero, List.getElem_cons_succ, List.setIfInBounds_toArray, List.set_cons_zero, List.set_cons_succ]
          refine wpAnyK_take (i := 8) (v := ?_) rfl (by kernel_rfl) (fun _ _ _ h => h) (Or.inl ⟨by rfl, ?_⟩) (by assumption) ?_
          rotate_left
          · (intro w hSw; (try dsimp only at hSw); go_simp; try with_reducible rfl)
          try simp only [Act.put, List.getElem_toArray, List.getElem_cons_zero, List.getElem_cons_succ, List.setIfInBounds_toArray, List.set_cons_zero, List.set_cons_succ]
          refine wpAnyK_take (i := 9) (v := ?_) rfl (by kernel_rfl) (fun _ _ _ h => h) (Or.inl ⟨by rfl, ?_⟩) (by assumption) ?_
          rotate_left
          · (intro w hSw; (try dsimp only at hSw); go_simp; try with_reducible rfl)
          try simp only [Act.put, List.getElem_toArray, List.getElem_cons_zero, List.getElem_cons_succ, List.setIfInBounds_toArray, List.set_cons_zero, List.set_cons_succ]
          refine wpAnyK_take (i := 10) (v := ?_) rfl (by kernel_rfl) (fun _ _ _ h => h) (Or.inl ⟨by rfl, ?_⟩) (by assumption) ?_
          rotate_left
          · (intro w hSw; (try dsimp only at hSw); go_simp; try with_reducible rfl)
          try simp only [Act.put, List.getElem_toArray, List.getElem_cons_zero, List.getElem_cons_succ, List.setIfInBounds_toArray, List.set_cons_zero, List.set_cons_succ]
          refine wpAnyK_take (i := 11) (v := ?_) rfl (by kernel_rfl) (fun _ _ _ h => h) (Or.inl ⟨by rfl, ?_⟩) (by assumption) ?_
          rotate_left
          · (intro w hSw; (try dsimp only at hSw); go_simp; try with_reducible rfl)
          try simp only [Act.put, List.getElem_toArray, List.getElem_cons_zero, List.getElem_cons_succ, List.setIfInBounds_toArray, List.set_cons_zero, List.set_cons_succ]
          refine wpAnyK_take (i := 12) (v := ?_) rfl (by kernel_rfl) (fun _ _ _ h => h) (Or.inl ⟨by rfl, ?_⟩) (by assumption) ?_
          rotate_left
          · (intro w hSw; (try dsimp only at hSw); go_simp; try with_reducible rfl)
          try simp only [Act.put, List.getElem_toArray, List.getElem_cons_zero, List.getElem_cons_succ, List.setIfInBounds_toArray, List.set_cons_zero, List.set_cons_succ]
          refine wpAnyK_step (i := 13) rfl (by kernel_rfl) (fun K hK => ?_)
          go_simp
          with_reducible refine (n_any 4 (by omega) (by omega) W.heap.size ra rn rc _ (Z0.out.drew.held.at HS3.out)).mono ?_
          rintro e wp ⟨r1, ⟨hr10, hr11⟩, rfl, hs, he⟩
          have Z1 := Lib.hid (Z0.out.drew.call hs he.apart)
          have q8 : IntKind.i64.wrap (D1 + r1) = D1 + r1 := IntWalk.i64_in _ ⟨by omega, by omega⟩
          clear hs he
          refine hK.out _ _ (HS11.out _ Z1.out) (fun hHeld1 => ?_)
          clear hK K hHeld0
          try simp only [Act.put, List.getElem_toArray, List.getElem_cons_zero, List.getElem_cons_succ, List.setIfInBounds_toArray, List.set_cons_zero, List.set_cons_succ]
          refine wpAnyK_take (i := 14) (v := ?_) rfl (by kernel_rfl) (fun _ _ _ h => h) (Or.inl ⟨by rfl, ?_⟩) (by assumption) ?_
          rotate_left
          · (intro w hSw; (try dsimp only at hSw); go_simp; try with_reducible rfl)
          try simp only [Act.put, List.getElem_toArray, List.getElem_cons_zero, List.getElem_cons_succ, List.setIfInBounds_toArray, List.set_cons_zero, List.set_cons_succ]
          refine wpAnyK_done (by kernel_rfl) ?_
          simp only [List.drop_succ_cons, List.drop_zero]
          clear hHeld1
          obtain ⟨e0, e1, e2, k0, k1, k2⟩ := Z1.out.bg
          go_wp2_with fail
          go_meet
          obtain ⟨gg, gf⟩ := far_good HLS.out.1 (fun i hi => by rw [HLS.out.2 i hi, if_pos hi]) hP1 hP3 hr10 hr11
          have hincq : 6000 - 2000 * ((4 - P : Nat) : Int) + r1 = D1 + r1 := by have := HJ.out; omega
          rw [hincq] at gg
          have hbd : ∀ i, i < ls.length → In64 (ls.getD i 0) := fun i hi => by
            have := gg.small gf hi; exact ⟨by omega, by omega⟩
          obtain ⟨ar, cr, her, hrr, hfr⟩ := rowZ_of_owns Z1.out.row (by omega) hbd
          obtain ⟨rfl, rfl⟩ : some ⟨gC, 0, none⟩ = ar ∧ capC = cr := by simpa using her
          have z1 := Z1.out
          have b1 := z1.hb; have b2 := z1.hF; have b3 := z1.hG; have b4 := z1.hA; have b5 := z1.hC; have b6 := z1.d1; have b7 := z1.d4
          exact ⟨some ⟨gA, 0, none⟩, 1, 1, 1, 3, [0], some ⟨gC, 0, none⟩, 4, capC, P, D1 + r1, ls, zero_good, gg, ⟨z1.held.set b1 (p := ⟨w3.heap.size + 1, 2, none⟩) (Nat.le_succ _) _, z1.bf.other (by omega) _ _, z1.rf.store (fun x hx _ => by cases hx; exact b7) _ _, z1.bg.set2 _, hrr.store (fun x hx _ => by cases hx; exact b6) _ _, b1, b2, b3, by omega, fun x hx => by cases hx; exact ⟨by show ¬ gA = W.heap.size; omega, b7⟩, fun x hx => by cases hx; show ¬ gC = W.heap.size; omega⟩⟩
    · have t0 : (m == 0) = false := by simpa using hr0
      clear hr0
      go_wp2_with fail
      go_meet
      exact ⟨a1, n1, cap1, p, inc, zs, a2, n2, cap2, q, jnc, ys, G1, K1, C6⟩
  case rest =>
    clear C6 G1 K1
    obtain ⟨a1, n1, cap1, p, inc, zs, a2, n2, cap2, q, jnc, ys, HG, HK, C7⟩ := hcut
    obtain ⟨w7, rfl⟩ : ∃ u : World, u = wc := ⟨_, rfl⟩
    obtain ⟨c0, c1, c2, f0, f1, f2⟩ := C7.out.bf
    obtain ⟨d0, d1, d2, g0, g1, g2⟩ := C7.out.bg
    go_wp2_with fail
    clear c0 c1 c2 f0 f1 f2 d0 d1 d2 g0 g1 g2
    obtain ⟨t, ok, ht⟩ := excP_ex (dC zs p inc ys q jnc)
    have M1 := Lib.hid ht
    obtain ⟨k1, k2⟩ := first_math ht
    clear ht
    refine (exceeds_ok a1 n1 cap1 zs p inc HG.out a2 n2 cap2 ys q jnc HK.out t ok _ C7.out.rf C7.out.rg M1.out).mono ?_
    rintro e w8 ⟨rfl, hb⟩
    have C8 := Lib.hid (C7.out.below hb)
    have HB8 := Lib.hid (HB3.out.trans (C8.out.held.ap.below (Nat.le_refl _) HB3.out.size))
    clear hb C7
    cases ok with
    | false =>
      obtain ⟨rfl, km⟩ := k1 rfl
      have KM := Lib.hid km
      clear k1 k2 km
      go_wp2_with fail
      refine (mod_any at' 3000 HAT.out (by omega) (by omega) _).mono ?_
      rintro e w9 ⟨rfl, rfl⟩
      obtain ⟨N, hN⟩ : ∃ N : Nat, at' % 3000 = (N : Int) := ⟨(at' % 3000).toNat, by omega⟩
      have hN2 : N ≤ 1048576 := by omega
      obtain ⟨v1, hv1⟩ : ∃ v, atC zs p inc N = v := ⟨_, rfl⟩
      obtain ⟨v2, hv2⟩ : ∃ v, atC ys q jnc N = v := ⟨_, rfl⟩
      have hle : v1 ≤ v2 := by
        have h1 := (seen_le HG.out HK.out hN2).1 (KM.out.1 rfl N)
        rw [hv1, hv2] at h1
        exact h1
      have V1 := Lib.hid hv1
      have V2 := Lib.hid hv2
      have T9 := Lib.hid (show Two w8 w3.heap.size a1 n1 cap1 p inc zs (w3.heap.size + 1) a2 n2 cap2 q jnc ys from ⟨C8.out.bf, C8.out.rf, C8.out.bg, C8.out.rg⟩)
      clear hv1 hv2
      go_wp2_with fail
      have G0 := Lib.hid (two6_drew T9.out)
      refine wp_region_keeps (fun u => Two6 w8 w3.heap.size a1 n1 cap1 p inc zs (w3.heap.size + 1) a2 n2 cap2 q jnc ys u) 19 1 (by kernel_rfl) (by kernel_rfl) G0.out (fun hHeld0 => ?_)
      refine wpAnyK_take (i := 0) (v := ?_) rfl (by kernel_rfl) (fun _ _ _ h => h) (Or.inl ⟨by rfl, ?_⟩) (by assumption) ?_
      rotate_left
      · (intro w hSw; (try dsimp only at hSw); go_simp; try with_reducible rfl)
      try simp only [Act.put, List.getElem_toArray, List.getElem_cons_zero, List.getElem_cons_succ, List.setIfInBounds_toArray, List.set_cons_zero, List.set_cons_succ]
      refine wpAnyK_take (i := 1) (v := ?_) rfl (by kernel_rfl) (fun _ _ _ h => h) (Or.inl ⟨by rfl, ?_⟩) (by assumption) ?_
      rotate_left
      · (intro w hSw; (try dsimp only at hSw); go_simp; try with_reducible rfl)
      try simp only [Act.put, List.getElem_toArray, List.getElem_cons_zero, List.getElem_cons_succ, List.setIfInBounds_toArray, List.set_cons_zero, List.set_cons_succ]
      refine wpAnyK_take (i := 2) (v := ?_) rfl (by kernel_rfl) (fun _ _ _ h => h) (Or.inl ⟨by rfl, ?_⟩) (by assumption) ?_
      rotate_left
      · (intro w hSw; (try dsimp only at hSw); go_simp; try with_reducible rfl)
      try simp only [Act.put, List.getElem_toArray, List.getElem_cons_zero, List.getElem_cons_succ, List.setIfInBounds_toArray, List.set_cons_zero, List.set_cons_succ]
      refine wpAnyK_take (i := 3) (v := ?_) rfl (by kernel_rfl) (fun _ _ _ h => h) (Or.inl ⟨by rfl, ?_⟩) (by assumption) ?_
      rotate_left
      · (intro w hSw; (try dsimp only at hSw); go_simp; try with_reducible rfl)
      try simp only [Act.put, List.getElem_toArray, List.getElem_cons_zero, List.getElem_cons_succ, List.setIfInBounds_toArray, List.set_cons_zero, List.set_cons_succ]
      refine wpAnyK_take (i := 4) (v := ?_) rfl (by kernel_rfl) (fun _ _ _ h => h) (Or.inl ⟨by rfl, ?_⟩) (by assumption) ?_
      rotate_left
      · (intro w hSw; (try dsimp only at hSw); go_simp; try with_reducible rfl)
      try simp only [Act.put, List.getElem_toArray, List.getElem_cons_zero, List.getElem_cons_succ, List.setIfInBounds_toArray, List.set_cons_zero, List.set_cons_succ]
      refine wpAnyK_take (i := 6) (v := ?_) rfl (by kernel_rfl) (fun _ _ _ h => h) (Or.inl ⟨by rfl, ?_⟩) (by assumption) ?_
      rotate_left
      · (intro w hSw; (try dsimp only at hSw); go_simp; try with_reducible rfl)
      try simp only [Act.put, List.getElem_toArray, List.getElem_cons_zero, List.getElem_cons_succ, List.setIfInBounds_toArray, List.set_cons_zero, List.set_cons_succ]
      refine wpAnyK_take (i := 7) (v := ?_) rfl (by kernel_rfl) (fun _ _ _ h => h) (Or.inl ⟨by rfl, ?_⟩) (by assumption) ?_
      rotate_left
      · (intro w hSw; (try dsimp only at hSw); go_simp; try with_reducible rfl)
      try simp only [Act.put, List.getElem_toArray, List.getElem_cons_zero, List.getElem_cons_succ, List.setIfInBounds_toArray, List.set_cons_zero, List.set_cons_succ]
      refine wpAnyK_step (i := 5) rfl (by kernel_rfl) (fun K hK => ?_)
      go_simp
      with_reducible refine (value4 a1 n1 cap1 zs p inc HG.out N N rfl hN2 v1 V1.out _ (two6_of G0.out).rx).mono ?_
      rintro e wa ⟨rfl, hb⟩
      have G1 := Lib.hid (two6_call G0.out hb)
      clear hb
      refine hK.out _ _ G1.out (fun hHeld1 => ?_)
      clear hK K hHeld0
      try simp only [Act.put, List.getElem_toArray, List.getElem_cons_zero, List.getElem_cons_succ, List.setIfInBounds_toArray, List.set_cons_zero, List.set_cons_succ]
      refine wpAnyK_step (i := 8) rfl (by kernel_rfl) (fun K hK => ?_)
      go_simp
      with_reducible refine (value4 a2 n2 cap2 ys q jnc HK.out N N rfl hN2 v2 V2.out _ (two6_of G1.out).ry).mono ?_
      rintro e wb ⟨rfl, hb⟩
      have G2 := Lib.hid (two6_call G1.out hb)
      clear hb
      refine hK.out _ _ G2.out (fun hHeld2 => ?_)
      clear hK K hHeld1
      try simp only [Act.put, List.getElem_toArray, List.getElem_cons_zero, List.getElem_cons_succ, List.setIfInBounds_toArray, List.set_cons_zero, List.set_cons_succ]
      refine wpAnyK_take (i := 9) (v := ?_) rfl (by kernel_rfl) (fun _ _ _ h => h) (Or.inl ⟨by rfl, ?_⟩) (by assumption) ?_
      rotate_left
      · (intro w hSw; (try dsimp only at hSw); go_simp; try with_reducible rfl)
      try simp only [Act.put, List.getElem_toArray, List.getElem_cons_zero, List.getElem_cons_succ, List.setIfInBounds_toArray, List.set_cons_zero, List.set_cons_succ]
      refine wpAnyK_take (i := 10) (v := ?_) rfl (by kernel_rfl) (fun _ _ _ h => h) (Or.inl ⟨by rfl, ?_⟩) (by assumption) ?_
      rotate_left
      · (intro w hSw; (try dsimp only at hSw); go_simp; try with_reducible rfl)
      try simp only [Act.put, List.getElem_toArray, List.getElem_cons_zero, List.getElem_cons_succ, List.setIfInBounds_toArray, List.set_cons_zero, List.set_cons_succ]
      refine wpAnyK_take (i := 11) (v := ?_) rfl (by kernel_rfl) (fun _ _ _ h => h) (Or.inl ⟨by rfl, ?_⟩) (by assumption) ?_
      rotate_left
      · (intro w hSw; (try dsimp only at hSw); go_simp; try with_reducible rfl)
      try simp only [Act.put, List.getElem_toArray, List.getElem_cons_zero, List.getElem_cons_succ, List.setIfInBounds_toArray, List.set_cons_zero, List.set_cons_succ]
      refine wpAnyK_take (i := 12) (v := ?_) rfl (by kernel_rfl) (fun _ _ _ h => h) (Or.inl ⟨by rfl, ?_⟩) (by assumption) ?_
      rotate_left
      · (intro w hSw; (try dsimp only at hSw); go_simp; try with_reducible rfl)
      try simp only [Act.put, List.getElem_toArray, List.getElem_cons_zero, List.getElem_cons_succ, List.setIfInBounds_toArray, List.set_cons_zero, List.set_cons_succ]
      refine wpAnyK_take (i := 13) (v := ?_) rfl (by kernel_rfl) (fun _ _ _ h => h) (Or.inl ⟨by rfl, ?_⟩) (by assumption) ?_
      rotate_left
      · (intro w hSw; (try dsimp only at hSw); go_simp; try with_reducible rfl)
      try simp only [Act.put, List.getElem_toArray, List.getElem_cons_zero, List.getElem_cons_succ, List.setIfInBounds_toArray, List.set_cons_zero, List.set_cons_succ]
      refine wpAnyK_step (i := 14) rfl (by kernel_rfl) (fun K hK => ?_)
      go_simp
      with_reducible refine (atMost_at a1 n1 cap1 zs p inc HG.out a2 n2 cap2 ys q jnc HK.out true KM.out _ (two6_of G2.out).rx (two6_of G2.out).ry).mono ?_
      rintro e wd ⟨rfl, hb⟩
      have G3 := Lib.hid (two6_call G2.out hb)
      clear hb
      refine hK.out _ _ G3.out (fun hHeld3 => ?_)
      clear hK K hHeld2
      try simp only [Act.put, List.getElem_toArray, List.getElem_cons_zero, List.getElem_cons_succ, List.setIfInBounds_toArray, List.set_cons_zero, List.set_cons_succ]
      refine wpAnyK_take (i := 15) (v := ?_) rfl (by kernel_rfl) (fun _ _ _ h => h) (Or.inl ⟨by rfl, ?_⟩) (by assumption) ?_
      rotate_left
      · (intro w hSw; (try dsimp only at hSw); go_simp; try with_reducible rfl)
      try simp only [Act.put, List.getElem_toArray, List.getElem_cons_zero, List.getElem_cons_succ, List.setIfInBounds_toArray, List.set_cons_zero, List.set_cons_succ]
      refine wpAnyK_take (i := 16) (v := ?_) rfl (by kernel_rfl) (fun _ _ _ h => h) (Or.inl ⟨by rfl, ?_⟩) (by assumption) ?_
      rotate_left
      · (intro w hSw; (try dsimp only at hSw); go_simp; try with_reducible rfl)
      try simp only [Act.put, List.getElem_toArray, List.getElem_cons_zero, List.getElem_cons_succ, List.setIfInBounds_toArray, List.set_cons_zero, List.set_cons_succ]
      refine wpAnyK_step (i := 17) rfl (by kernel_rfl) (fun K hK => ?_)
      go_simp
      with_reducible refine (awake4 _).mono ?_
      rintro e we ⟨rfl, hb⟩
      have G4 := Lib.hid (two6_call G3.out hb)
      clear hb
      refine hK.out _ _ G4.out (fun hHeld4 => ?_)
      clear hK K hHeld3
      try simp only [Act.put, List.getElem_toArray, List.getElem_cons_zero, List.getElem_cons_succ, List.setIfInBounds_toArray, List.set_cons_zero, List.set_cons_succ]
      refine wpAnyK_take (i := 18) (v := ?_) rfl (by kernel_rfl) (fun _ _ _ h => h) (Or.inl ⟨by rfl, ?_⟩) (by assumption) ?_
      rotate_left
      · (intro w hSw; (try dsimp only at hSw); go_simp; try with_reducible rfl)
      try simp only [Act.put, List.getElem_toArray, List.getElem_cons_zero, List.getElem_cons_succ, List.setIfInBounds_toArray, List.set_cons_zero, List.set_cons_succ]
      refine wpAnyK_done (by kernel_rfl) ?_
      simp only [List.drop_succ_cons, List.drop_zero]
      clear hHeld4
      go_wp2_with fail
      go_ret
      exact ⟨rfl, HB8.out.trans ((two6_below G4.out).mono HB8.out.size)⟩
    | true =>
      obtain ⟨T, hT, kp, kb, km⟩ := k2 rfl
      have HT := Lib.hid hT
      have KP := Lib.hid kp
      have KB := Lib.hid kb
      have KM := Lib.hid km
      have ht0 : 0 ≤ t := by omega
      have ht1 : ¬ t < 0 := by omega
      clear k1 k2 hT kp kb km
      by_cases hbig : 1048576 < t
      · go_wp2_with fail
        refine (awake4 _).mono ?_
        rintro e w9 ⟨rfl, hb⟩
        have HB9 := Lib.hid (HB8.out.trans (hb.mono HB8.out.size))
        clear hb
        go_wp2_with fail
        go_ret
        exact ⟨rfl, HB9.out⟩
      · have hT2 : T ≤ 1048576 := by have := HT.out; omega
        have htT : t = (T : Int) := HT.out
        obtain ⟨v1, hv1⟩ : ∃ v, atC zs p inc T = v := ⟨_, rfl⟩
        obtain ⟨v2, hv2⟩ : ∃ v, atC ys q jnc T = v := ⟨_, rfl⟩
        have hgt : v2 < v1 := by
          have h1 := seen_le HG.out HK.out hT2
          rw [hv1, hv2] at h1
          have h2 := KP.out
          omega
        have V1 := Lib.hid hv1
        have V2 := Lib.hid hv2
        have T8 := Lib.hid (show Two w8 w3.heap.size a1 n1 cap1 p inc zs (w3.heap.size + 1) a2 n2 cap2 q jnc ys from ⟨C8.out.bf, C8.out.rf, C8.out.bg, C8.out.rg⟩)
        have hnle : decide (v1 ≤ v2) = false := by simp; omega
        have hnle' : ¬ v1 ≤ v2 := by omega
        clear hv1 hv2 htT
        go_upto_region 20 with fail
        go_cut [114] (fun s114 wx => s114 = .bool false ∧ Hid (Below w8.heap.size w8 wx))
        case first =>
          have G0 := Lib.hid (two6_drew T8.out)
          refine wp_region_keeps (fun u => Two6 w8 w3.heap.size a1 n1 cap1 p inc zs (w3.heap.size + 1) a2 n2 cap2 q jnc ys u) 11 1 (by kernel_rfl) (by kernel_rfl) G0.out (fun hHeld0 => ?_)
          refine wpAnyK_take (i := 0) (v := ?_) rfl (by kernel_rfl) (fun _ _ _ h => h) (Or.inl ⟨by rfl, ?_⟩) (by assumption) ?_
          rotate_left
          · (intro w hSw; (try dsimp only at hSw); go_simp; try with_reducible rfl)
          try simp only [Act.put, List.getElem_toArray, List.getElem_cons_zero, List.getElem_cons_succ, List.setIfInBounds_toArray, List.set_cons_zero, List.set_cons_succ]
          refine wpAnyK_take (i := 1) (v := ?_) rfl (by kernel_rfl) (fun _ _ _ h => h) (Or.inl ⟨by rfl, ?_⟩) (by assumption) ?_
          rotate_left
          · (intro w hSw; (try dsimp only at hSw); go_simp; try with_reducible rfl)
          try simp only [Act.put, List.getElem_toArray, List.getElem_cons_zero, List.getElem_cons_succ, List.setIfInBounds_toArray, List.set_cons_zero, List.set_cons_succ]
          refine wpAnyK_take (i := 3) (v := ?_) rfl (by kernel_rfl) (fun _ _ _ h => h) (Or.inl ⟨by rfl, ?_⟩) (by assumption) ?_
          rotate_left
          · (intro w hSw; (try dsimp only at hSw); go_simp; try with_reducible rfl)
          try simp only [Act.put, List.getElem_toArray, List.getElem_cons_zero, List.getElem_cons_succ, List.setIfInBounds_toArray, List.set_cons_zero, List.set_cons_succ]
          refine wpAnyK_take (i := 4) (v := ?_) rfl (by kernel_rfl) (fun _ _ _ h => h) (Or.inl ⟨by rfl, ?_⟩) (by assumption) ?_
          rotate_left
          · (intro w hSw; (try dsimp only at hSw); go_simp; try with_reducible rfl)
          try simp only [Act.put, List.getElem_toArray, List.getElem_cons_zero, List.getElem_cons_succ, List.setIfInBounds_toArray, List.set_cons_zero, List.set_cons_succ]
          refine wpAnyK_step (i := 2) rfl (by kernel_rfl) (fun K hK => ?_)
          go_simp
          with_reducible refine (value4 a1 n1 cap1 zs p inc HG.out t T HT.out hT2 v1 V1.out _ (two6_of G0.out).rx).mono ?_
          rintro e wa ⟨rfl, hb⟩
          have G1 := Lib.hid (two6_call G0.out hb)
          clear hb
          refine hK.out _ _ G1.out (fun hHeld1 => ?_)
          clear hK K hHeld0
          try simp only [Act.put, List.getElem_toArray, List.getElem_cons_zero, List.getElem_cons_succ, List.setIfInBounds_toArray, List.set_cons_zero, List.set_cons_succ]
          refine wpAnyK_step (i := 5) rfl (by kernel_rfl) (fun K hK => ?_)
          go_simp
          with_reducible refine (value4 a2 n2 cap2 ys q jnc HK.out t T HT.out hT2 v2 V2.out _ (two6_of G1.out).ry).mono ?_
          rintro e wb ⟨rfl, hb⟩
          have G2 := Lib.hid (two6_call G1.out hb)
          clear hb
          refine hK.out _ _ G2.out (fun hHeld2 => ?_)
          clear hK K hHeld1
          try simp only [Act.put, List.getElem_toArray, List.getElem_cons_zero, List.getElem_cons_succ, List.setIfInBounds_toArray, List.set_cons_zero, List.set_cons_succ]
          refine wpAnyK_take (i := 6) (v := ?_) rfl (by kernel_rfl) (fun _ _ _ h => h) (Or.inl ⟨by rfl, ?_⟩) (by assumption) ?_
          rotate_left
          · (intro w hSw; (try dsimp only at hSw); go_simp; try with_reducible rfl)
          try simp only [Act.put, List.getElem_toArray, List.getElem_cons_zero, List.getElem_cons_succ, List.setIfInBounds_toArray, List.set_cons_zero, List.set_cons_succ]
          refine wpAnyK_take (i := 7) (v := ?_) rfl (by kernel_rfl) (fun _ _ _ h => h) (Or.inl ⟨by rfl, ?_⟩) (by assumption) ?_
          rotate_left
          · (intro w hSw; (try dsimp only at hSw); go_simp; try with_reducible rfl)
          try simp only [Act.put, List.getElem_toArray, List.getElem_cons_zero, List.getElem_cons_succ, List.setIfInBounds_toArray, List.set_cons_zero, List.set_cons_succ]
          refine wpAnyK_take (i := 8) (v := ?_) rfl (by kernel_rfl) (fun _ _ _ h => h) (Or.inl ⟨by rfl, ?_⟩) (by assumption) ?_
          rotate_left
          · (intro w hSw; (try dsimp only at hSw); go_simp; try with_reducible rfl)
          try simp only [Act.put, List.getElem_toArray, List.getElem_cons_zero, List.getElem_cons_succ, List.setIfInBounds_toArray, List.set_cons_zero, List.set_cons_succ]
          refine wpAnyK_take (i := 9) (v := ?_) rfl (by kernel_rfl) (fun _ _ _ h => h) (Or.inl ⟨by rfl, ?_⟩) (by assumption) ?_
          rotate_left
          · (intro w hSw; (try dsimp only at hSw); go_simp; try with_reducible rfl)
          try simp only [Act.put, List.getElem_toArray, List.getElem_cons_zero, List.getElem_cons_succ, List.setIfInBounds_toArray, List.set_cons_zero, List.set_cons_succ]
          refine wpAnyK_step (i := 10) rfl (by kernel_rfl) (fun K hK => ?_)
          go_simp
          with_reducible refine (atMost_at a1 n1 cap1 zs p inc HG.out a2 n2 cap2 ys q jnc HK.out false KM.out _ (two6_of G2.out).rx (two6_of G2.out).ry).mono ?_
          rintro e wd ⟨rfl, hb⟩
          have G3 := Lib.hid (two6_call G2.out hb)
          clear hb
          refine hK.out _ _ G3.out (fun hHeld3 => ?_)
          clear hK K hHeld2
          try simp only [Act.put, List.getElem_toArray, List.getElem_cons_zero, List.getElem_cons_succ, List.setIfInBounds_toArray, List.set_cons_zero, List.set_cons_succ]
          refine wpAnyK_done (by kernel_rfl) ?_
          simp only [List.drop_succ_cons, List.drop_zero]
          clear hHeld3
          go_wp2_with fail
          go_meet
          exact ⟨rfl, two6_below G3.out⟩
        case rest =>
          obtain ⟨rfl, HX⟩ := hcut
          obtain ⟨w9, rfl⟩ : ∃ u : World, u = wc := ⟨_, rfl⟩
          have C9 := Lib.hid (C8.out.below HX.out)
          clear C8 HX T8 hgt V1 V2 hnle hnle'
          go_wp2_with fail
          go_loopw [13] (fun s13 wx => ∃ k : Nat, s13 = .int .i64 k ∧ k ≤ 50 ∧ Hid (Ce w3 W.heap.size ra rn rc w3.heap.size a1 n1 cap1 p inc zs (w3.heap.size + 1) a2 n2 cap2 q jnc ys wx)) (fun s13 _ => 50 - (intOf s13).toNat)
          case atStart => exact ⟨0, by go_num, by omega, C9⟩
          case round =>
            clear C9
            obtain ⟨k, rfl, hk, C10⟩ := hrel
            obtain ⟨w10, rfl⟩ : ∃ u : World, u = wr := ⟨_, rfl⟩
            by_cases hgo : k < 50 ∧ (k : Int) < t
            · obtain ⟨hk1, hk2⟩ := hgo
              have hk3 : (k : Int) < 50 := by omega
              go_wp2_with fail
              refine (n_any t (by omega) (by omega) W.heap.size ra rn rc _ (C10.out.held.at HS3.out)).mono ?_
              rintro e w11 ⟨r, ⟨hr0, hr1⟩, rfl, hs, he⟩
              have C11 := Lib.hid (C10.out.call hs he.apart)
              clear hs he C10
              obtain ⟨m, hm⟩ : ∃ m : Nat, r = (m : Int) := ⟨r.toNat, by omega⟩
              subst hm
              have hm1 : m < T := by have := HT.out; omega
              have hm2 : m ≤ 1048576 := by omega
              obtain ⟨v1, hv1⟩ : ∃ v, atC zs p inc m = v := ⟨_, rfl⟩
              obtain ⟨v2, hv2⟩ : ∃ v, atC ys q jnc m = v := ⟨_, rfl⟩
              have hsg := (seen_le HG.out HK.out hm2).1 (KB.out m hm1)
              rw [hv1, hv2] at hsg
              have hng : ¬ v2 < v1 := by omega
              have V1 := Lib.hid hv1
              have V2 := Lib.hid hv2
              have T11 := Lib.hid (show Two w11 w3.heap.size a1 n1 cap1 p inc zs (w3.heap.size + 1) a2 n2 cap2 q jnc ys from ⟨C11.out.bf, C11.out.rf, C11.out.bg, C11.out.rg⟩)
              clear hv1 hv2
              go_wp2_with fail
              go_region_held3 (fun u => Two6 w11 w3.heap.size a1 n1 cap1 p inc zs (w3.heap.size + 1) a2 n2 cap2 q jnc ys u)
                (first | with_reducible exact two6_drew T11.out | with_reducible exact two6_call (by assumption) hbx)
                (first
                  | (go_at_call 25; ((with_reducible refine (value4 a1 n1 cap1 zs p inc HG.out m m rfl hm2 v1 V1.out _ (two6_of (by assumption)).rx).mono ?_); rintro e w12 ⟨rfl, hbx⟩))
                  | (go_at_call 25; ((with_reducible refine (value4 a2 n2 cap2 ys q jnc HK.out m m rfl hm2 v2 V2.out _ (two6_of (by assumption)).ry).mono ?_); rintro e w13 ⟨rfl, hbx⟩)))
              have hT6 : Two6 w11 w3.heap.size a1 n1 cap1 p inc zs (w3.heap.size + 1) a2 n2 cap2 q jnc ys w13 := by assumption
              have C13 := Lib.hid (C11.out.below (two6_below hT6))
              clear hT6
              go_wp2_with fail
              exact ⟨⟨k + 1, by go_num, by omega, C13⟩, by simp [intOf]; omega⟩
            · have HB10 := Lib.hid (HB3.out.trans (C10.out.held.ap.below (Nat.le_refl _) HB3.out.size))
              have T10 := Lib.hid (show Two w10 w3.heap.size a1 n1 cap1 p inc zs (w3.heap.size + 1) a2 n2 cap2 q jnc ys from ⟨C10.out.bf, C10.out.rf, C10.out.bg, C10.out.rg⟩)
              have G0 := Lib.hid (two6_drew T10.out)
              by_cases hk5 : k < 50
              · have hk6 : (k : Int) < 50 := by omega
                have hk7 : ¬ (k : Int) < t := fun h => hgo ⟨hk5, h⟩
                clear hgo
                by_cases h0 : t = 0
                · subst h0
                  go_wp2_with fail
                  refine wp_region_keeps (fun u => Two6 w10 w3.heap.size a1 n1 cap1 p inc zs (w3.heap.size + 1) a2 n2 cap2 q jnc ys u) 16 1 (by kernel_rfl) (by kernel_rfl) G0.out (fun hHeld0 => ?_)
                  refine wpAnyK_take (i := 0) (v := ?_) rfl (by kernel_rfl) (fun _ _ _ h => h) (Or.inl ⟨by rfl, ?_⟩) (by assumption) ?_
                  rotate_left
                  · (intro w hSw; (try dsimp only at hSw); go_simp; try with_reducible rfl)
                  try simp only [Act.put, List.getElem_toArray, List.getElem_cons_zero, List.getElem_cons_succ, List.setIfInBounds_toArray, List.set_cons_zero, List.set_cons_succ]
                  refine wpAnyK_take (i := 1) (v := ?_) rfl (by kernel_rfl) (fun _ _ _ h => h) (Or.inl ⟨by rfl, ?_⟩) (by assumption) ?_
                  rotate_left
                  · (intro w hSw; (try dsimp only at hSw); go_simp; try with_reducible rfl)
                  try simp only [Act.put, List.getElem_toArray, List.getElem_cons_zero, List.getElem_cons_succ, List.setIfInBounds_toArray, List.set_cons_zero, List.set_cons_succ]
                  refine wpAnyK_take (i := 2) (v := ?_) rfl (by kernel_rfl) (fun _ _ _ h => h) (Or.inl ⟨by rfl, ?_⟩) (by assumption) ?_
                  rotate_left
                  · (intro w hSw; (try dsimp only at hSw); go_simp; try with_reducible rfl)
                  try simp only [Act.put, List.getElem_toArray, List.getElem_cons_zero, List.getElem_cons_succ, List.setIfInBounds_toArray, List.set_cons_zero, List.set_cons_succ]
                  refine wpAnyK_take (i := 3) (v := undef) rfl (by kernel_rfl) (fun _ _ _ h => h) (Or.inr ⟨by rfl, rfl⟩) (by assumption) ?_
                  try simp only [Act.put, List.getElem_toArray, List.getElem_cons_zero, List.getElem_cons_succ, List.setIfInBounds_toArray, List.set_cons_zero, List.set_cons_succ]
                  refine wpAnyK_take (i := 4) (v := undef) rfl (by kernel_rfl) (fun _ _ _ h => h) (Or.inr ⟨by rfl, rfl⟩) (by assumption) ?_
                  try simp only [Act.put, List.getElem_toArray, List.getElem_cons_zero, List.getElem_cons_succ, List.setIfInBounds_toArray, List.set_cons_zero, List.set_cons_succ]
                  refine wpAnyK_take (i := 5) (v := undef) rfl (by kernel_rfl) (fun _ _ _ h => h) (Or.inr ⟨by rfl, rfl⟩) (by assumption) ?_
                  try simp only [Act.put, List.getElem_toArray, List.getElem_cons_zero, List.getElem_cons_succ, List.setIfInBounds_toArray, List.set_cons_zero, List.set_cons_succ]
                  refine wpAnyK_take (i := 6) (v := undef) rfl (by kernel_rfl) (fun _ _ _ h => h) (Or.inr ⟨by rfl, rfl⟩) (by assumption) ?_
                  try simp only [Act.put, List.getElem_toArray, List.getElem_cons_zero, List.getElem_cons_succ, List.setIfInBounds_toArray, List.set_cons_zero, List.set_cons_succ]
                  refine wpAnyK_take (i := 7) (v := undef) rfl (by kernel_rfl) (fun _ _ _ h => h) (Or.inr ⟨by rfl, rfl⟩) (by assumption) ?_
                  try simp only [Act.put, List.getElem_toArray, List.getElem_cons_zero, List.getElem_cons_succ, List.setIfInBounds_toArray, List.set_cons_zero, List.set_cons_succ]
                  refine wpAnyK_take (i := 8) (v := undef) rfl (by kernel_rfl) (fun _ _ _ h => h) (Or.inr ⟨by rfl, rfl⟩) (by assumption) ?_
                  try simp only [Act.put, List.getElem_toArray, List.getElem_cons_zero, List.getElem_cons_succ, List.setIfInBounds_toArray, List.set_cons_zero, List.set_cons_succ]
                  refine wpAnyK_take (i := 9) (v := undef) rfl (by kernel_rfl) (fun _ _ _ h => h) (Or.inr ⟨by rfl, rfl⟩) (by assumption) ?_
                  try simp only [Act.put, List.getElem_toArray, List.getElem_cons_zero, List.getElem_cons_succ, List.setIfInBounds_toArray, List.set_cons_zero, List.set_cons_succ]
                  refine wpAnyK_take (i := 10) (v := undef) rfl (by kernel_rfl) (fun _ _ _ h => h) (Or.inr ⟨by rfl, rfl⟩) (by assumption) ?_
                  try simp only [Act.put, List.getElem_toArray, List.getElem_cons_zero, List.getElem_cons_succ, List.setIfInBounds_toArray, List.set_cons_zero, List.set_cons_succ]
                  refine wpAnyK_take (i := 11) (v := undef) rfl (by kernel_rfl) (fun _ _ _ h => h) (Or.inr ⟨by rfl, rfl⟩) (by assumption) ?_
                  try simp only [Act.put, List.getElem_toArray, List.getElem_cons_zero, List.getElem_cons_succ, List.setIfInBounds_toArray, List.set_cons_zero, List.set_cons_succ]
                  refine wpAnyK_take (i := 12) (v := undef) rfl (by kernel_rfl) (fun _ _ _ h => h) (Or.inr ⟨by rfl, rfl⟩) (by assumption) ?_
                  try simp only [Act.put, List.getElem_toArray, List.getElem_cons_zero, List.getElem_cons_succ, List.setIfInBounds_toArray, List.set_cons_zero, List.set_cons_succ]
                  refine wpAnyK_take (i := 13) (v := undef) rfl (by kernel_rfl) (fun _ _ _ h => h) (Or.inr ⟨by rfl, rfl⟩) (by assumption) ?_
                  try simp only [Act.put, List.getElem_toArray, List.getElem_cons_zero, List.getElem_cons_succ, List.setIfInBounds_toArray, List.set_cons_zero, List.set_cons_succ]
                  refine wpAnyK_take (i := 14) (v := undef) rfl (by kernel_rfl) (fun _ _ _ h => h) (Or.inr ⟨by rfl, rfl⟩) (by assumption) ?_
                  try simp only [Act.put, List.getElem_toArray, List.getElem_cons_zero, List.getElem_cons_succ, List.setIfInBounds_toArray, List.set_cons_zero, List.set_cons_succ]
                  refine wpAnyK_take (i := 15) (v := ?_) rfl (by kernel_rfl) (fun _ _ _ h => h) (Or.inl ⟨by rfl, ?_⟩) (by assumption) ?_
                  rotate_left
                  · (intro w hSw; (try dsimp only at hSw); go_simp; try with_reducible rfl)
                  try simp only [Act.put, List.getElem_toArray, List.getElem_cons_zero, List.getElem_cons_succ, List.setIfInBounds_toArray, List.set_cons_zero, List.set_cons_succ]
                  refine wpAnyK_done (by kernel_rfl) ?_
                  simp only [List.drop_succ_cons, List.drop_zero]
                  clear hHeld0
                  go_wp2_with fail
                  go_ret
                  exact ⟨rfl, HB10.out.trans ((two6_below G0.out).mono HB10.out.size)⟩

                · go_wp2_with fail
                  obtain ⟨u1, hu1⟩ : ∃ u : Nat, t - 1 = (u : Int) := ⟨(t - 1).toNat, by omega⟩
                  have hu2 : u1 ≤ 1048576 := by omega
                  have hu3 : u1 < T := by have := HT.out; omega
                  obtain ⟨v1, hv1⟩ : ∃ v, atC zs p inc u1 = v := ⟨_, rfl⟩
                  obtain ⟨v2, hv2⟩ : ∃ v, atC ys q jnc u1 = v := ⟨_, rfl⟩
                  have hle : v1 ≤ v2 := by
                    have h2 := (seen_le HG.out HK.out hu2).1 (KB.out u1 hu3)
                    rw [hv1, hv2] at h2
                    exact h2
                  have hled : decide (v1 ≤ v2) = true := by simpa using hle
                  have qw : IntKind.i64.wrap (u1 : Int) = (u1 : Int) := IntWalk.i64_in _ ⟨by omega, by omega⟩
                  have tz : (t == 0) = false := by simpa using h0
                  have V1 := Lib.hid hv1
                  have V2 := Lib.hid hv2
                  clear hv1 hv2 hu3 h0
                  refine wp_region_keeps (fun u => Two6 w10 w3.heap.size a1 n1 cap1 p inc zs (w3.heap.size + 1) a2 n2 cap2 q jnc ys u) 16 1 (by kernel_rfl) (by kernel_rfl) G0.out (fun hHeld0 => ?_)
                  refine wpAnyK_take (i := 0) (v := ?_) rfl (by kernel_rfl) (fun _ _ _ h => h) (Or.inl ⟨by rfl, ?_⟩) (by assumption) ?_
                  rotate_left
                  · (intro w hSw; (try dsimp only at hSw); go_simp; try with_reducible rfl)
                  try simp only [Act.put, List.getElem_toArray, List.getElem_cons_zero, List.getElem_cons_succ, List.setIfInBounds_toArray, List.set_cons_zero, List.set_cons_succ]
                  refine wpAnyK_take (i := 1) (v := ?_) rfl (by kernel_rfl) (fun _ _ _ h => h) (Or.inl ⟨by rfl, ?_⟩) (by assumption) ?_
                  rotate_left
                  · (intro w hSw; (try dsimp only at hSw); go_simp; try with_reducible rfl)
                  try simp only [Act.put, List.getElem_toArray, List.getElem_cons_zero, List.getElem_cons_succ, List.setIfInBounds_toArray, List.set_cons_zero, List.set_cons_succ]
                  refine wpAnyK_take (i := 2) (v := ?_) rfl (by kernel_rfl) (fun _ _ _ h => h) (Or.inl ⟨by rfl, ?_⟩) (by assumption) ?_
                  rotate_left
                  · (intro w hSw; (try dsimp only at hSw); go_simp; try with_reducible rfl)
                  try simp only [Act.put, List.getElem_toArray, List.getElem_cons_zero, List.getElem_cons_succ, List.setIfInBounds_toArray, List.set_cons_zero, List.set_cons_succ]
                  refine wpAnyK_take (i := 3) (v := ?_) rfl (by kernel_rfl) (fun _ _ _ h => h) (Or.inl ⟨by rfl, ?_⟩) (by assumption) ?_
                  rotate_left
                  · (intro w hSw; (try dsimp only at hSw); go_simp; try with_reducible rfl)
                  try simp only [Act.put, List.getElem_toArray, List.getElem_cons_zero, List.getElem_cons_succ, List.setIfInBounds_toArray, List.set_cons_zero, List.set_cons_succ]
                  refine wpAnyK_take (i := 4) (v := ?_) rfl (by kernel_rfl) (fun _ _ _ h => h) (Or.inl ⟨by rfl, ?_⟩) (by assumption) ?_
                  rotate_left
                  · (intro w hSw; (try dsimp only at hSw); go_simp; try with_reducible rfl)
                  try simp only [Act.put, List.getElem_toArray, List.getElem_cons_zero, List.getElem_cons_succ, List.setIfInBounds_toArray, List.set_cons_zero, List.set_cons_succ]
                  refine wpAnyK_take (i := 5) (v := ?_) rfl (by kernel_rfl) (fun _ _ _ h => h) (Or.inl ⟨by rfl, ?_⟩) (by assumption) ?_
                  rotate_left
                  · (intro w hSw; (try dsimp only at hSw); go_simp; try with_reducible rfl)
                  try simp only [Act.put, List.getElem_toArray, List.getElem_cons_zero, List.getElem_cons_succ, List.setIfInBounds_toArray, List.set_cons_zero, List.set_cons_succ]
                  refine wpAnyK_take (i := 7) (v := ?_) rfl (by kernel_rfl) (fun _ _ _ h => h) (Or.inl ⟨by rfl, ?_⟩) (by assumption) ?_
                  rotate_left
                  · (intro w hSw; (try dsimp only at hSw); go_simp; try with_reducible rfl)
                  try simp only [Act.put, List.getElem_toArray, List.getElem_cons_zero, List.getElem_cons_succ, List.setIfInBounds_toArray, List.set_cons_zero, List.set_cons_succ]
                  refine wpAnyK_take (i := 8) (v := ?_) rfl (by kernel_rfl) (fun _ _ _ h => h) (Or.inl ⟨by rfl, ?_⟩) (by assumption) ?_
                  rotate_left
                  · (intro w hSw; (try dsimp only at hSw); go_simp; try with_reducible rfl)
                  try simp only [Act.put, List.getElem_toArray, List.getElem_cons_zero, List.getElem_cons_succ, List.setIfInBounds_toArray, List.set_cons_zero, List.set_cons_succ]
                  refine wpAnyK_take (i := 9) (v := ?_) rfl (by kernel_rfl) (fun _ _ _ h => h) (Or.inl ⟨by rfl, ?_⟩) (by assumption) ?_
                  rotate_left
                  · (intro w hSw; (try dsimp only at hSw); go_simp; try with_reducible rfl)
                  try simp only [Act.put, List.getElem_toArray, List.getElem_cons_zero, List.getElem_cons_succ, List.setIfInBounds_toArray, List.set_cons_zero, List.set_cons_succ]
                  refine wpAnyK_step (i := 6) rfl (by kernel_rfl) (fun K hK => ?_)
                  go_simp
                  with_reducible refine (value4 a1 n1 cap1 zs p inc HG.out u1 u1 rfl hu2 v1 V1.out _ (two6_of G0.out).rx).mono ?_
                  rintro e wa ⟨rfl, hb⟩
                  have G1 := Lib.hid (two6_call G0.out hb)
                  clear hb
                  refine hK.out _ _ G1.out (fun hHeld1 => ?_)
                  clear hK K hHeld0
                  try simp only [Act.put, List.getElem_toArray, List.getElem_cons_zero, List.getElem_cons_succ, List.setIfInBounds_toArray, List.set_cons_zero, List.set_cons_succ]
                  refine wpAnyK_step (i := 10) rfl (by kernel_rfl) (fun K hK => ?_)
                  go_simp
                  with_reducible refine (value4 a2 n2 cap2 ys q jnc HK.out u1 u1 rfl hu2 v2 V2.out _ (two6_of G1.out).ry).mono ?_
                  rintro e wb ⟨rfl, hb⟩
                  have G2 := Lib.hid (two6_call G1.out hb)
                  clear hb
                  refine hK.out _ _ G2.out (fun hHeld2 => ?_)
                  clear hK K hHeld1
                  try simp only [Act.put, List.getElem_toArray, List.getElem_cons_zero, List.getElem_cons_succ, List.setIfInBounds_toArray, List.set_cons_zero, List.set_cons_succ]
                  refine wpAnyK_take (i := 11) (v := ?_) rfl (by kernel_rfl) (fun _ _ _ h => h) (Or.inl ⟨by rfl, ?_⟩) (by assumption) ?_
                  rotate_left
                  · (intro w hSw; (try dsimp only at hSw); go_simp; try with_reducible rfl)
                  try simp only [Act.put, List.getElem_toArray, List.getElem_cons_zero, List.getElem_cons_succ, List.setIfInBounds_toArray, List.set_cons_zero, List.set_cons_succ]
                  refine wpAnyK_take (i := 12) (v := ?_) rfl (by kernel_rfl) (fun _ _ _ h => h) (Or.inl ⟨by rfl, ?_⟩) (by assumption) ?_
                  rotate_left
                  · (intro w hSw; (try dsimp only at hSw); go_simp; try with_reducible rfl)
                  try simp only [Act.put, List.getElem_toArray, List.getElem_cons_zero, List.getElem_cons_succ, List.setIfInBounds_toArray, List.set_cons_zero, List.set_cons_succ]
                  refine wpAnyK_step (i := 13) rfl (by kernel_rfl) (fun K hK => ?_)
                  go_simp
                  with_reducible refine (awake4 _).mono ?_
                  rintro e we ⟨rfl, hb⟩
                  have G3 := Lib.hid (two6_call G2.out hb)
                  clear hb
                  refine hK.out _ _ G3.out (fun hHeld3 => ?_)
                  clear hK K hHeld2
                  try simp only [Act.put, List.getElem_toArray, List.getElem_cons_zero, List.getElem_cons_succ, List.setIfInBounds_toArray, List.set_cons_zero, List.set_cons_succ]
                  refine wpAnyK_take (i := 14) (v := ?_) rfl (by kernel_rfl) (fun _ _ _ h => h) (Or.inl ⟨by rfl, ?_⟩) (by assumption) ?_
                  rotate_left
                  · (intro w hSw; (try dsimp only at hSw); go_simp; try with_reducible rfl)
                  try simp only [Act.put, List.getElem_toArray, List.getElem_cons_zero, List.getElem_cons_succ, List.setIfInBounds_toArray, List.set_cons_zero, List.set_cons_succ]
                  refine wpAnyK_take (i := 15) (v := ?_) rfl (by kernel_rfl) (fun _ _ _ h => h) (Or.inl ⟨by rfl, ?_⟩) (by assumption) ?_
                  rotate_left
                  · (intro w hSw; (try dsimp only at hSw); go_simp; try with_reducible rfl)
                  try simp only [Act.put, List.getElem_toArray, List.getElem_cons_zero, List.getElem_cons_succ, List.setIfInBounds_toArray, List.set_cons_zero, List.set_cons_succ]
                  refine wpAnyK_done (by kernel_rfl) ?_
                  simp only [List.drop_succ_cons, List.drop_zero]
                  clear hHeld3
                  go_wp2_with fail
                  go_ret
                  exact ⟨rfl, HB10.out.trans ((two6_below G3.out).mono HB10.out.size)⟩

              · have hk6 : ¬ (k : Int) < 50 := by omega
                clear hgo
                by_cases h0 : t = 0
                · subst h0
                  go_wp2_with fail
                  refine wp_region_keeps (fun u => Two6 w10 w3.heap.size a1 n1 cap1 p inc zs (w3.heap.size + 1) a2 n2 cap2 q jnc ys u) 16 1 (by kernel_rfl) (by kernel_rfl) G0.out (fun hHeld0 => ?_)
                  refine wpAnyK_take (i := 0) (v := ?_) rfl (by kernel_rfl) (fun _ _ _ h => h) (Or.inl ⟨by rfl, ?_⟩) (by assumption) ?_
                  rotate_left
                  · (intro w hSw; (try dsimp only at hSw); go_simp; try with_reducible rfl)
                  try simp only [Act.put, List.getElem_toArray, List.getElem_cons_zero, List.getElem_cons_succ, List.setIfInBounds_toArray, List.set_cons_zero, List.set_cons_succ]
                  refine wpAnyK_take (i := 1) (v := ?_) rfl (by kernel_rfl) (fun _ _ _ h => h) (Or.inl ⟨by rfl, ?_⟩) (by assumption) ?_
                  rotate_left
                  · (intro w hSw; (try dsimp only at hSw); go_simp; try with_reducible rfl)
                  try simp only [Act.put, List.getElem_toArray, List.getElem_cons_zero, List.getElem_cons_succ, List.setIfInBounds_toArray, List.set_cons_zero, List.set_cons_succ]
                  refine wpAnyK_take (i := 2) (v := ?_) rfl (by kernel_rfl) (fun _ _ _ h => h) (Or.inl ⟨by rfl, ?_⟩) (by assumption) ?_
                  rotate_left
                  · (intro w hSw; (try dsimp only at hSw); go_simp; try with_reducible rfl)
                  try simp only [Act.put, List.getElem_toArray, List.getElem_cons_zero, List.getElem_cons_succ, List.setIfInBounds_toArray, List.set_cons_zero, List.set_cons_succ]
                  refine wpAnyK_take (i := 3) (v := undef) rfl (by kernel_rfl) (fun _ _ _ h => h) (Or.inr ⟨by rfl, rfl⟩) (by assumption) ?_
                  try simp only [Act.put, List.getElem_toArray, List.getElem_cons_zero, List.getElem_cons_succ, List.setIfInBounds_toArray, List.set_cons_zero, List.set_cons_succ]
                  refine wpAnyK_take (i := 4) (v := undef) rfl (by kernel_rfl) (fun _ _ _ h => h) (Or.inr ⟨by rfl, rfl⟩) (by assumption) ?_
                  try simp only [Act.put, List.getElem_toArray, List.getElem_cons_zero, List.getElem_cons_succ, List.setIfInBounds_toArray, List.set_cons_zero, List.set_cons_succ]
                  refine wpAnyK_take (i := 5) (v := undef) rfl (by kernel_rfl) (fun _ _ _ h => h) (Or.inr ⟨by rfl, rfl⟩) (by assumption) ?_
                  try simp only [Act.put, List.getElem_toArray, List.getElem_cons_zero, List.getElem_cons_succ, List.setIfInBounds_toArray, List.set_cons_zero, List.set_cons_succ]
                  refine wpAnyK_take (i := 6) (v := undef) rfl (by kernel_rfl) (fun _ _ _ h => h) (Or.inr ⟨by rfl, rfl⟩) (by assumption) ?_
                  try simp only [Act.put, List.getElem_toArray, List.getElem_cons_zero, List.getElem_cons_succ, List.setIfInBounds_toArray, List.set_cons_zero, List.set_cons_succ]
                  refine wpAnyK_take (i := 7) (v := undef) rfl (by kernel_rfl) (fun _ _ _ h => h) (Or.inr ⟨by rfl, rfl⟩) (by assumption) ?_
                  try simp only [Act.put, List.getElem_toArray, List.getElem_cons_zero, List.getElem_cons_succ, List.setIfInBounds_toArray, List.set_cons_zero, List.set_cons_succ]
                  refine wpAnyK_take (i := 8) (v := undef) rfl (by kernel_rfl) (fun _ _ _ h => h) (Or.inr ⟨by rfl, rfl⟩) (by assumption) ?_
                  try simp only [Act.put, List.getElem_toArray, List.getElem_cons_zero, List.getElem_cons_succ, List.setIfInBounds_toArray, List.set_cons_zero, List.set_cons_succ]
                  refine wpAnyK_take (i := 9) (v := undef) rfl (by kernel_rfl) (fun _ _ _ h => h) (Or.inr ⟨by rfl, rfl⟩) (by assumption) ?_
                  try simp only [Act.put, List.getElem_toArray, List.getElem_cons_zero, List.getElem_cons_succ, List.setIfInBounds_toArray, List.set_cons_zero, List.set_cons_succ]
                  refine wpAnyK_take (i := 10) (v := undef) rfl (by kernel_rfl) (fun _ _ _ h => h) (Or.inr ⟨by rfl, rfl⟩) (by assumption) ?_
                  try simp only [Act.put, List.getElem_toArray, List.getElem_cons_zero, List.getElem_cons_succ, List.setIfInBounds_toArray, List.set_cons_zero, List.set_cons_succ]
                  refine wpAnyK_take (i := 11) (v := undef) rfl (by kernel_rfl) (fun _ _ _ h => h) (Or.inr ⟨by rfl, rfl⟩) (by assumption) ?_
                  try simp only [Act.put, List.getElem_toArray, List.getElem_cons_zero, List.getElem_cons_succ, List.setIfInBounds_toArray, List.set_cons_zero, List.set_cons_succ]
                  refine wpAnyK_take (i := 12) (v := undef) rfl (by kernel_rfl) (fun _ _ _ h => h) (Or.inr ⟨by rfl, rfl⟩) (by assumption) ?_
                  try simp only [Act.put, List.getElem_toArray, List.getElem_cons_zero, List.getElem_cons_succ, List.setIfInBounds_toArray, List.set_cons_zero, List.set_cons_succ]
                  refine wpAnyK_take (i := 13) (v := undef) rfl (by kernel_rfl) (fun _ _ _ h => h) (Or.inr ⟨by rfl, rfl⟩) (by assumption) ?_
                  try simp only [Act.put, List.getElem_toArray, List.getElem_cons_zero, List.getElem_cons_succ, List.setIfInBounds_toArray, List.set_cons_zero, List.set_cons_succ]
                  refine wpAnyK_take (i := 14) (v := undef) rfl (by kernel_rfl) (fun _ _ _ h => h) (Or.inr ⟨by rfl, rfl⟩) (by assumption) ?_
                  try simp only [Act.put, List.getElem_toArray, List.getElem_cons_zero, List.getElem_cons_succ, List.setIfInBounds_toArray, List.set_cons_zero, List.set_cons_succ]
                  refine wpAnyK_take (i := 15) (v := ?_) rfl (by kernel_rfl) (fun _ _ _ h => h) (Or.inl ⟨by rfl, ?_⟩) (by assumption) ?_
                  rotate_left
                  · (intro w hSw; (try dsimp only at hSw); go_simp; try with_reducible rfl)
                  try simp only [Act.put, List.getElem_toArray, List.getElem_cons_zero, List.getElem_cons_succ, List.setIfInBounds_toArray, List.set_cons_zero, List.set_cons_succ]
                  refine wpAnyK_done (by kernel_rfl) ?_
                  simp only [List.drop_succ_cons, List.drop_zero]
                  clear hHeld0
                  go_wp2_with fail
                  go_ret
                  exact ⟨rfl, HB10.out.trans ((two6_below G0.out).mono HB10.out.size)⟩

                · go_wp2_with fail
                  obtain ⟨u1, hu1⟩ : ∃ u : Nat, t - 1 = (u : Int) := ⟨(t - 1).toNat, by omega⟩
                  have hu2 : u1 ≤ 1048576 := by omega
                  have hu3 : u1 < T := by have := HT.out; omega
                  obtain ⟨v1, hv1⟩ : ∃ v, atC zs p inc u1 = v := ⟨_, rfl⟩
                  obtain ⟨v2, hv2⟩ : ∃ v, atC ys q jnc u1 = v := ⟨_, rfl⟩
                  have hle : v1 ≤ v2 := by
                    have h2 := (seen_le HG.out HK.out hu2).1 (KB.out u1 hu3)
                    rw [hv1, hv2] at h2
                    exact h2
                  have hled : decide (v1 ≤ v2) = true := by simpa using hle
                  have qw : IntKind.i64.wrap (u1 : Int) = (u1 : Int) := IntWalk.i64_in _ ⟨by omega, by omega⟩
                  have tz : (t == 0) = false := by simpa using h0
                  have V1 := Lib.hid hv1
                  have V2 := Lib.hid hv2
                  clear hv1 hv2 hu3 h0
                  refine wp_region_keeps (fun u => Two6 w10 w3.heap.size a1 n1 cap1 p inc zs (w3.heap.size + 1) a2 n2 cap2 q jnc ys u) 16 1 (by kernel_rfl) (by kernel_rfl) G0.out (fun hHeld0 => ?_)
                  refine wpAnyK_take (i := 0) (v := ?_) rfl (by kernel_rfl) (fun _ _ _ h => h) (Or.inl ⟨by rfl, ?_⟩) (by assumption) ?_
                  rotate_left
                  · (intro w hSw; (try dsimp only at hSw); go_simp; try with_reducible rfl)
                  try simp only [Act.put, List.getElem_toArray, List.getElem_cons_zero, List.getElem_cons_succ, List.setIfInBounds_toArray, List.set_cons_zero, List.set_cons_succ]
                  refine wpAnyK_take (i := 1) (v := ?_) rfl (by kernel_rfl) (fun _ _ _ h => h) (Or.inl ⟨by rfl, ?_⟩) (by assumption) ?_
                  rotate_left
                  · (intro w hSw; (try dsimp only at hSw); go_simp; try with_reducible rfl)
                  try simp only [Act.put, List.getElem_toArray, List.getElem_cons_zero, List.getElem_cons_succ, List.setIfInBounds_toArray, List.set_cons_zero, List.set_cons_succ]
                  refine wpAnyK_take (i := 2) (v := ?_) rfl (by kernel_rfl) (fun _ _ _ h => h) (Or.inl ⟨by rfl, ?_⟩) (by assumption) ?_
                  rotate_left
                  · (intro w hSw; (try dsimp only at hSw); go_simp; try with_reducible rfl)
                  try simp only [Act.put, List.getElem_toArray, List.getElem_cons_zero, List.getElem_cons_succ, List.setIfInBounds_toArray, List.set_cons_zero, List.set_cons_succ]
                  refine wpAnyK_take (i := 3) (v := ?_) rfl (by kernel_rfl) (fun _ _ _ h => h) (Or.inl ⟨by rfl, ?_⟩) (by assumption) ?_
                  rotate_left
                  · (intro w hSw; (try dsimp only at hSw); go_simp; try with_reducible rfl)
                  try simp only [Act.put, List.getElem_toArray, List.getElem_cons_zero, List.getElem_cons_succ, List.setIfInBounds_toArray, List.set_cons_zero, List.set_cons_succ]
                  refine wpAnyK_take (i := 4) (v := ?_) rfl (by kernel_rfl) (fun _ _ _ h => h) (Or.inl ⟨by rfl, ?_⟩) (by assumption) ?_
                  rotate_left
                  · (intro w hSw; (try dsimp only at hSw); go_simp; try with_reducible rfl)
                  try simp only [Act.put, List.getElem_toArray, List.getElem_cons_zero, List.getElem_cons_succ, List.setIfInBounds_toArray, List.set_cons_zero, List.set_cons_succ]
                  refine wpAnyK_take (i := 5) (v := ?_) rfl (by kernel_rfl) (fun _ _ _ h => h) (Or.inl ⟨by rfl, ?_⟩) (by assumption) ?_
                  rotate_left
                  · (intro w hSw; (try dsimp only at hSw); go_simp; try with_reducible rfl)
                  try simp only [Act.put, List.getElem_toArray, List.getElem_cons_zero, List.getElem_cons_succ, List.setIfInBounds_toArray, List.set_cons_zero, List.set_cons_succ]
                  refine wpAnyK_take (i := 7) (v := ?_) rfl (by kernel_rfl) (fun _ _ _ h => h) (Or.inl ⟨by rfl, ?_⟩) (by assumption) ?_
                  rotate_left
                  · (intro w hSw; (try dsimp only at hSw); go_simp; try with_reducible rfl)
                  try simp only [Act.put, List.getElem_toArray, List.getElem_cons_zero, List.getElem_cons_succ, List.setIfInBounds_toArray, List.set_cons_zero, List.set_cons_succ]
                  refine wpAnyK_take (i := 8) (v := ?_) rfl (by kernel_rfl) (fun _ _ _ h => h) (Or.inl ⟨by rfl, ?_⟩) (by assumption) ?_
                  rotate_left
                  · (intro w hSw; (try dsimp only at hSw); go_simp; try with_reducible rfl)
                  try simp only [Act.put, List.getElem_toArray, List.getElem_cons_zero, List.getElem_cons_succ, List.setIfInBounds_toArray, List.set_cons_zero, List.set_cons_succ]
                  refine wpAnyK_take (i := 9) (v := ?_) rfl (by kernel_rfl) (fun _ _ _ h => h) (Or.inl ⟨by rfl, ?_⟩) (by assumption) ?_
                  rotate_left
                  · (intro w hSw; (try dsimp only at hSw); go_simp; try with_reducible rfl)
                  try simp only [Act.put, List.getElem_toArray, List.getElem_cons_zero, List.getElem_cons_succ, List.setIfInBounds_toArray, List.set_cons_zero, List.set_cons_succ]
                  refine wpAnyK_step (i := 6) rfl (by kernel_rfl) (fun K hK => ?_)
                  go_simp
                  with_reducible refine (value4 a1 n1 cap1 zs p inc HG.out u1 u1 rfl hu2 v1 V1.out _ (two6_of G0.out).rx).mono ?_
                  rintro e wa ⟨rfl, hb⟩
                  have G1 := Lib.hid (two6_call G0.out hb)
                  clear hb
                  refine hK.out _ _ G1.out (fun hHeld1 => ?_)
                  clear hK K hHeld0
                  try simp only [Act.put, List.getElem_toArray, List.getElem_cons_zero, List.getElem_cons_succ, List.setIfInBounds_toArray, List.set_cons_zero, List.set_cons_succ]
                  refine wpAnyK_step (i := 10) rfl (by kernel_rfl) (fun K hK => ?_)
                  go_simp
                  with_reducible refine (value4 a2 n2 cap2 ys q jnc HK.out u1 u1 rfl hu2 v2 V2.out _ (two6_of G1.out).ry).mono ?_
                  rintro e wb ⟨rfl, hb⟩
                  have G2 := Lib.hid (two6_call G1.out hb)
                  clear hb
                  refine hK.out _ _ G2.out (fun hHeld2 => ?_)
                  clear hK K hHeld1
                  try simp only [Act.put, List.getElem_toArray, List.getElem_cons_zero, List.getElem_cons_succ, List.setIfInBounds_toArray, List.set_cons_zero, List.set_cons_succ]
                  refine wpAnyK_take (i := 11) (v := ?_) rfl (by kernel_rfl) (fun _ _ _ h => h) (Or.inl ⟨by rfl, ?_⟩) (by assumption) ?_
                  rotate_left
                  · (intro w hSw; (try dsimp only at hSw); go_simp; try with_reducible rfl)
                  try simp only [Act.put, List.getElem_toArray, List.getElem_cons_zero, List.getElem_cons_succ, List.setIfInBounds_toArray, List.set_cons_zero, List.set_cons_succ]
                  refine wpAnyK_take (i := 12) (v := ?_) rfl (by kernel_rfl) (fun _ _ _ h => h) (Or.inl ⟨by rfl, ?_⟩) (by assumption) ?_
                  rotate_left
                  · (intro w hSw; (try dsimp only at hSw); go_simp; try with_reducible rfl)
                  try simp only [Act.put, List.getElem_toArray, List.getElem_cons_zero, List.getElem_cons_succ, List.setIfInBounds_toArray, List.set_cons_zero, List.set_cons_succ]
                  refine wpAnyK_step (i := 13) rfl (by kernel_rfl) (fun K hK => ?_)
                  go_simp
                  with_reducible refine (awake4 _).mono ?_
                  rintro e we ⟨rfl, hb⟩
                  have G3 := Lib.hid (two6_call G2.out hb)
                  clear hb
                  refine hK.out _ _ G3.out (fun hHeld3 => ?_)
                  clear hK K hHeld2
                  try simp only [Act.put, List.getElem_toArray, List.getElem_cons_zero, List.getElem_cons_succ, List.setIfInBounds_toArray, List.set_cons_zero, List.set_cons_succ]
                  refine wpAnyK_take (i := 14) (v := ?_) rfl (by kernel_rfl) (fun _ _ _ h => h) (Or.inl ⟨by rfl, ?_⟩) (by assumption) ?_
                  rotate_left
                  · (intro w hSw; (try dsimp only at hSw); go_simp; try with_reducible rfl)
                  try simp only [Act.put, List.getElem_toArray, List.getElem_cons_zero, List.getElem_cons_succ, List.setIfInBounds_toArray, List.set_cons_zero, List.set_cons_succ]
                  refine wpAnyK_take (i := 15) (v := ?_) rfl (by kernel_rfl) (fun _ _ _ h => h) (Or.inl ⟨by rfl, ?_⟩) (by assumption) ?_
                  rotate_left
                  · (intro w hSw; (try dsimp only at hSw); go_simp; try with_reducible rfl)
                  try simp only [Act.put, List.getElem_toArray, List.getElem_cons_zero, List.getElem_cons_succ, List.setIfInBounds_toArray, List.set_cons_zero, List.set_cons_succ]
                  refine wpAnyK_done (by kernel_rfl) ?_
                  simp only [List.drop_succ_cons, List.drop_zero]
                  clear hHeld3
                  go_wp2_with fail
                  go_ret
                  exact ⟨rfl, HB10.out.trans ((two6_below G3.out).mono HB10.out.size)⟩


end Go.Proofs.Ytgdkjmmlgnmidaa
