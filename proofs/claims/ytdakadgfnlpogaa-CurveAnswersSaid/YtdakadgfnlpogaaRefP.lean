/- Contract of the document's periodic, and what it has to do with the least period. By the verifier's side. -/
import Derived.Test.YtdakadgfnlpogaaRefA
import Derived.Deep.RegionHeld3
import Derived.Test.YtdakadgfnlpogaaKeepS
namespace Go.Proofs.Ytdakadgfnlpogaa
open Go.RowKit
set_option linter.unusedSimpArgs false

/-- The document's test of a period. -/
def PerOk (f : Nat → Int) (s P : Nat) (I : Int) (q : Nat) : Prop := P % q = 0 ∧ I * (q : Int) % (P : Int) = 0 ∧ ∀ t, s ≤ t → t < s + P → f (t + q) = f t + I * (q : Int) / (P : Int)

theorem PerOk.grows {f : Nat → Int} {s P q : Nat} {I : Int} (h : PerOk f s P I q) : GrowsAt f s P q := fun t h1 h2 => by
  have e1 := h.2.2 t (by omega) h2
  have e2 := h.2.2 s (Nat.le_refl _) (by omega)
  omega

theorem perOk_self {f : Nat → Int} {s P : Nat} {I : Int} (hP : 1 ≤ P) (h : Per f s P I) : PerOk f s P I P := by
  have hp0 : (P : Int) ≠ 0 := by omega
  exact ⟨Nat.mod_self _, Int.mul_emod_left _ _, fun t h1 _ => by rw [Int.mul_ediv_cancel _ hp0]; exact h t h1⟩

theorem least_div {f : Nat → Int} {s P r : Nat} {I c : Int} (hP : Per f s P I) (hr : Per f s r c) (pos : 1 ≤ r) (least : ∀ q, 1 ≤ q → q < r → ∀ c', ¬ Per f s q c') : P % r = 0 ∧ I = ((P / r : Nat) : Int) * c := by
  have hm := hP.mod hr
  have hlt := Nat.mod_lt P pos
  have h0 : P % r = 0 := by
    rcases Nat.eq_zero_or_pos (P % r) with h0 | hpos
    · exact h0
    · exact absurd hm (least _ hpos hlt _)
  refine ⟨h0, ?_⟩
  rw [h0] at hm
  have := hm s (Nat.le_refl _)
  rw [Nat.add_zero] at this
  omega

theorem least_ex (Q : Nat → Prop) : ∀ P, 1 ≤ P → Q P → ∃ r, 1 ≤ r ∧ r ≤ P ∧ Q r ∧ ∀ q, 1 ≤ q → q < r → ¬ Q q := by
  intro P
  induction P using Nat.strongRecOn with
  | ind P ih =>
    intro h1 hQ
    by_cases h : ∃ q, 1 ≤ q ∧ q < P ∧ Q q
    · obtain ⟨q, hq1, hq2, hq3⟩ := h
      obtain ⟨r, a, b, c, d⟩ := ih q hq2 hq1 hq3
      exact ⟨r, a, by omega, c, d⟩
    · exact ⟨P, h1, Nat.le_refl _, hQ, fun q a b c => h ⟨q, a, b, c⟩⟩

/-- The first number that passes the document's test is the least period. -/
theorem perOk_least {f : Nat → Int} {s P r : Nat} {I : Int} (hP : 1 ≤ P) (h : Per f s P I) (hl : ∀ q, 1 ≤ q → q < r → ¬ PerOk f s P I q) : ∀ q, 1 ≤ q → q < r → ¬ GrowsAt f s P q := by
  intro q hq1 hq2 hg
  have hPg : GrowsAt f s P P := (perOk_self hP h).grows
  obtain ⟨r0, a1, a2, a3, a4⟩ := least_ex (GrowsAt f s P) q hq1 hg
  obtain ⟨s', c, hk⟩ := (grows_iff h hP).1 a3
  have hk' := h.any hP hk
  obtain ⟨b1, b2⟩ := least_div h hk' a1 (fun q' c1 c2 c' hc' => a4 q' c1 c2 ((grows_iff h hP).2 ⟨s, c', hc'⟩))
  refine hl r0 a1 (by omega) ⟨b1, ?_, ?_⟩
  all_goals
    have e : P = P / r0 * r0 := by have := Nat.mod_add_div P r0; rw [b1, Nat.zero_add, Nat.mul_comm] at this; exact this.symm
    have e2 : I * (r0 : Int) = c * (P : Int) := by
      conv => rhs; rw [e]
      rw [b2, Int.natCast_mul]; grind
    rw [e2]
  · exact Int.mul_emod_left _ _
  · intro t h1 _
    rw [Int.mul_ediv_cancel _ (by omega)]
    exact hk' t h1

/-- One curve in box F, and its row, behind something that leaves them alone. -/
abbrev OneS (W : World) (F : Nat) (a : Option Addr) (n cap p : Nat) (inc : Int) (zs : List Int) (w' : World) : Prop :=
  w'.cell? ⟨F, 0, none⟩ = some (.slice a n cap) ∧ w'.cell? ⟨F, 1, none⟩ = some (.int .i64 p) ∧ w'.cell? ⟨F, 2, none⟩ = some (.int .i64 inc) ∧ Hid (Below W.heap.size W w' ∧ Cur3 w' F (.slice a n cap) (.int .i64 p) (.int .i64 inc) ∧ RowZ w' a n cap zs)
section
variable {W u v : World} {F : Nat} {a : Option Addr} {n cap p : Nat} {inc : Int} {zs : List Int}
theorem one_s (h : Cur3 u F (.slice a n cap) (.int .i64 p) (.int .i64 inc)) (hr : RowZ u a n cap zs) (hb : Below W.heap.size W u) : OneS W F a n cap p inc zs u := ⟨h.c0, h.c1, h.c2, hb, h, hr⟩
theorem one_row (h : OneS W F a n cap p inc zs u) : RowZ u a n cap zs := h.2.2.2.out.2.2
theorem one_box (h : OneS W F a n cap p inc zs u) : Cur3 u F (.slice a n cap) (.int .i64 p) (.int .i64 inc) := h.2.2.2.out.2.1
theorem one_below (h : OneS W F a n cap p inc zs u) : Below W.heap.size W u := h.2.2.2.out.1
theorem one_call (h : OneS W F a n cap p inc zs u) (hb : Below u.heap.size u v) : OneS W F a n cap p inc zs v :=
  one_s ((one_box h).below hb) ((one_row h).under hb) ((one_below h).trans (hb.mono (one_below h).size))
theorem one_drew (h : Cur3 W F (.slice a n cap) (.int .i64 p) (.int .i64 inc)) (hr : RowZ W a n cap zs) : OneS W F a n cap p inc zs W.drew :=
  one_s (h.below (Below.refl _ _).drew) (hr.under (Below.refl _ _).drew) (Below.refl _ _).drew
end

/-- What periodic hands back. -/
def PerSays (f : Nat → Int) (s P : Nat) (I : Int) (q : Nat) (w : World) (e : Ending) (w' : World) : Prop := ∃ b : Bool, (b = true ↔ PerOk f s P I q) ∧ e = .returned (.bool b) ∧ Below w.heap.size w w'

set_option maxRecDepth 100000 in
set_option maxHeartbeats 3200000 in
theorem rper_any (a : Option Addr) (n cap : Nat) (zs : List Int) (P : Nat) (inc : Int) (g : Good zs P inc) (hf : ¬ zs.getD (zs.length - 1) 0 = infV) (s q : Nat) (hs : s + P = n) (hq1 : 1 ≤ q) (hq2 : q ≤ P) (w : World) (h : RowZ w a n cap zs) :
    Calls Try.prog 56 #[curV a n cap P inc, .int .i64 s, .int .i64 q] w (PerSays (atC zs P inc) s P inc q w) := by
  have HBl := Lib.hid (box_below w (.cells #[.slice a n cap, .int .i64 P, .int .i64 inc] 24))
  have R0 := Lib.hid (h.under HBl.out)
  have B0 := Lib.hid (Cur3.new w (.slice a n cap) (.int .i64 P) (.int .i64 inc) 24)
  have G := Lib.hid g
  have hn4 : n ≤ 400 := by have := g.few; have := h.len; omega
  have hP1 := g.p1; have hP2 := g.p2; have hi0 := g.i0; have hi1 := g.i1
  obtain ⟨f, hfe⟩ : ∃ f, atC zs P inc = f := ⟨_, rfl⟩
  have HBD : Hid (∀ t : Nat, 0 ≤ f t ∧ f t ≤ 1073741824 * ((t : Int) + 1)) := Lib.hid (by rw [← hfe]; exact g.bd hf)
  have HF := Lib.hid hfe
  rw [hfe]
  obtain ⟨m, hm⟩ : ∃ m, P % q = m := ⟨_, rfl⟩
  have hmI : (P : Int) % (q : Int) = (m : Int) := by rw [← hm]; simp
  obtain ⟨X, hX⟩ : ∃ X, inc * (q : Int) = X := ⟨_, rfl⟩
  have hXb : 0 ≤ X ∧ X ≤ 1073741824 * 120 := by rw [← hX]; exact ⟨Int.mul_nonneg hi0 (by omega), Int.mul_le_mul hi1 (by omega) (by omega) (by omega)⟩
  obtain ⟨hX0, hX1⟩ := hXb
  have hXw : IntKind.i64.wrap (inc * (q : Int)) = X := by rw [hX]; exact IntWalk.i64_in _ ⟨by omega, by omega⟩
  obtain ⟨m2, hm2⟩ : ∃ m2, X % (P : Int) = m2 := ⟨_, rfl⟩
  obtain ⟨d, hd⟩ : ∃ d, X / (P : Int) = d := ⟨_, rfl⟩
  have hdb : 0 ≤ d ∧ d ≤ X := by rw [← hd]; exact ⟨Int.ediv_nonneg hX0 (by omega), Int.ediv_le_self _ hX0⟩
  obtain ⟨hd0, hd1⟩ := hdb
  have HO : Hid (PerOk f s P inc q ↔ m = 0 ∧ m2 = 0 ∧ ∀ t, s ≤ t → t < s + P → f (t + q) = f t + d) := Lib.hid (by unfold PerOk; rw [hm, hX, hm2, hd])
  have HM := Lib.hid (And.intro hm hX)
  have z1 : ¬ (P : Int) = 0 := by omega
  have z2 : (1 : Int) ≤ (P : Int) := by omega
  have z3 : (0 : Int) ≤ (P : Int) := by omega
  have z4 : X.tdiv (P : Int) = d := by rw [Int.tdiv_eq_ediv_of_nonneg hX0]; exact hd
  have z5 : ((P : Int) == 0) = false := by simp; omega
  have z7 : ¬ P = 0 := by omega
  have z6 : IntKind.i64.wrap d = d := IntWalk.i64_in _ ⟨by omega, by omega⟩
  clear h g hf hfe hm hX
  by_cases h0 : m = 0
  · have t0 : ((m : Int) != 0) = false := by simp [h0]
    have H0 := Lib.hid h0
    clear h0
    by_cases h2 : m2 = 0
    · have t2 : (m2 != 0) = false := by simp [h2]
      have H2 := Lib.hid h2
      clear h2
      go_enter Try.func56, Try.ntmps56
      go_wp2_with fail
      simp only [hmI, hm2]
      generalize w.alloc (.cells #[.slice a n cap, .int .i64 P, .int .i64 inc] 24) = w0 at HBl R0 B0 ⊢
      go_loopw [7] (fun s7 wx => ∃ t : Nat, s7 = .int .i64 t ∧ s ≤ t ∧ t ≤ s + P ∧ Hid (∀ u, s ≤ u → u < t → f (u + q) = f u + d) ∧ Hid (Below w0.heap.size w0 wx)) (fun s7 _ => s + P - (intOf s7).toNat)
      case atStart => exact ⟨s, rfl, Nat.le_refl _, Nat.le_add_right _ _, fun u h1 h2 => by omega, Below.refl _ _⟩
      case round =>
        obtain ⟨t, rfl, ht1, ht2, hall, HBx⟩ := hrel
        obtain ⟨w1, rfl⟩ : ∃ u : World, u = wr := ⟨_, rfl⟩
        have B1 := Lib.hid (B0.out.below HBx.out)
        have R1 := Lib.hid (R0.out.under HBx.out)
        obtain ⟨c0, c1, c2, f0, f1, f2⟩ := B1.out
        by_cases hlt : t < s + P
        · have hlt' : (t : Int) < (s : Int) + (P : Int) := by omega
          obtain ⟨v1, hv1⟩ : ∃ v, f (t + q) = v := ⟨_, rfl⟩
          obtain ⟨v2, hv2⟩ : ∃ v, f t = v := ⟨_, rfl⟩
          have b1 := HBD.out (t + q)
          have b2 := HBD.out t
          rw [hv1] at b1
          rw [hv2] at b2
          have e1 := HF.out
          have HV1 : Hid (atC zs P inc (t + q) = v1) := Lib.hid (by rw [e1]; exact hv1)
          have HV2 : Hid (atC zs P inc t = v2) := Lib.hid (by rw [e1]; exact hv2)
          have HV := Lib.hid (And.intro hv1 hv2)
          have s1 : IntKind.i64.wrap (v2 + d) = v2 + d := IntWalk.i64_in _ ⟨by omega, by omega⟩
          have s2 : IntKind.i64.wrap ((t : Int) + (q : Int)) = (t : Int) + (q : Int) := IntWalk.i64_in _ ⟨by omega, by omega⟩
          have s3 : IntKind.i64.wrap d = d := IntWalk.i64_in _ ⟨by omega, by omega⟩
          clear e1 hv1 hv2 b1 b2
          go_wp2_with fail
          have O1 := Lib.hid (one_drew B1.out R1.out)
          refine wp_region_keeps (fun u => OneS w1 w.heap.size a n cap P inc zs u) 16 1 (by kernel_rfl) (by kernel_rfl) O1.out (fun hHeld => ?_)
          refine wpAnyK_take (i := 0) (v := ?_) rfl (by kernel_rfl) (fun _ _ _ h => h) (Or.inl ⟨by rfl, ?_⟩) (by assumption) ?_
          rotate_left
          · (intro w hSw; (try dsimp only at hSw); go_simp; try with_reducible rfl)
          try simp only [Act.put, List.setIfInBounds_toArray, List.set_cons_zero, List.set_cons_succ]
          refine wpAnyK_take (i := 1) (v := ?_) rfl (by kernel_rfl) (fun _ _ _ h => h) (Or.inl ⟨by rfl, ?_⟩) (by assumption) ?_
          rotate_left
          · (intro w hSw; (try dsimp only at hSw); go_simp; try with_reducible rfl)
          try simp only [Act.put, List.setIfInBounds_toArray, List.set_cons_zero, List.set_cons_succ]
          refine wpAnyK_take (i := 2) (v := ?_) rfl (by kernel_rfl) (fun _ _ _ h => h) (Or.inl ⟨by rfl, ?_⟩) (by assumption) ?_
          rotate_left
          · (intro w hSw; (try dsimp only at hSw); go_simp; try with_reducible rfl)
          try simp only [Act.put, List.setIfInBounds_toArray, List.set_cons_zero, List.set_cons_succ]
          refine wpAnyK_take (i := 3) (v := ?_) rfl (by kernel_rfl) (fun _ _ _ h => h) (Or.inl ⟨by rfl, ?_⟩) (by assumption) ?_
          rotate_left
          · (intro w hSw; (try dsimp only at hSw); go_simp; try with_reducible rfl)
          try simp only [Act.put, List.setIfInBounds_toArray, List.set_cons_zero, List.set_cons_succ]
          refine wpAnyK_take (i := 5) (v := ?_) rfl (by kernel_rfl) (fun _ _ _ h => h) (Or.inl ⟨by rfl, ?_⟩) (by assumption) ?_
          rotate_left
          · (intro w hSw; (try dsimp only at hSw); go_simp; try with_reducible rfl)
          try simp only [Act.put, List.setIfInBounds_toArray, List.set_cons_zero, List.set_cons_succ]
          refine wpAnyK_take (i := 6) (v := ?_) rfl (by kernel_rfl) (fun _ _ _ h => h) (Or.inl ⟨by rfl, ?_⟩) (by assumption) ?_
          rotate_left
          · (intro w hSw; (try dsimp only at hSw); go_simp; try with_reducible rfl)
          try simp only [Act.put, List.setIfInBounds_toArray, List.set_cons_zero, List.set_cons_succ]
          refine wpAnyK_take (i := 8) (v := ?_) rfl (by kernel_rfl) (fun _ _ _ h => h) (Or.inl ⟨by rfl, ?_⟩) (by assumption) ?_
          rotate_left
          · (intro w hSw; (try dsimp only at hSw); go_simp; try with_reducible rfl)
          try simp only [Act.put, List.setIfInBounds_toArray, List.set_cons_zero, List.set_cons_succ]
          refine wpAnyK_take (i := 9) (v := ?_) rfl (by kernel_rfl) (fun _ _ _ h => h) (Or.inl ⟨by rfl, ?_⟩) (by assumption) ?_
          rotate_left
          · (intro w hSw; (try dsimp only at hSw); go_simp; try with_reducible rfl)
          try simp only [Act.put, List.setIfInBounds_toArray, List.set_cons_zero, List.set_cons_succ]
          refine wpAnyK_take (i := 10) (v := ?_) rfl (by kernel_rfl) (fun _ _ _ h => h) (Or.inl ⟨by rfl, ?_⟩) (by assumption) ?_
          rotate_left
          · (intro w hSw; (try dsimp only at hSw); go_simp; try with_reducible rfl)
          try simp only [Act.put, List.setIfInBounds_toArray, List.set_cons_zero, List.set_cons_succ]
          refine wpAnyK_take (i := 11) (v := ?_) rfl (by kernel_rfl) (fun _ _ _ h => h) (Or.inl ⟨by rfl, ?_⟩) (by assumption) ?_
          rotate_left
          · (intro w hSw; (try dsimp only at hSw); go_simp; try with_reducible rfl)
          try simp only [Act.put, List.setIfInBounds_toArray, List.set_cons_zero, List.set_cons_succ]
          refine wpAnyK_take (i := 12) (v := ?_) rfl (by kernel_rfl) (fun _ _ _ h => h) (Or.inl ⟨by rfl, ?_⟩) (by assumption) ?_
          rotate_left
          · (intro w hSw; (try dsimp only at hSw); go_simp; try with_reducible rfl)
          try simp only [Act.put, List.setIfInBounds_toArray, List.set_cons_zero, List.set_cons_succ]
          refine wpAnyK_take (i := 13) (v := ?_) rfl (by kernel_rfl) (fun _ _ _ h => h) (Or.inl ⟨by rfl, ?_⟩) (by assumption) ?_
          rotate_left
          · (intro w hSw; (try dsimp only at hSw); go_simp; try with_reducible rfl)
          try simp only [Act.put, List.setIfInBounds_toArray, List.set_cons_zero, List.set_cons_succ]
          refine wpAnyK_take (i := 14) (v := ?_) rfl (by kernel_rfl) (fun _ _ _ h => h) (Or.inl ⟨by rfl, ?_⟩) (by assumption) ?_
          rotate_left
          · (intro w hSw; (try dsimp only at hSw); go_simp; try with_reducible rfl)
          try simp only [Act.put, List.setIfInBounds_toArray, List.set_cons_zero, List.set_cons_succ]
          refine wpAnyK_step (i := 4) rfl (by kernel_rfl) (fun K hK => ?_)
          go_simp
          refine (rat_at a n cap zs P inc G.out _ (t + q) (by omega) (by omega) v1 HV1.out _ (one_row O1.out)).mono ?_
          rintro e w2 ⟨rfl, hb2⟩
          have O2 := Lib.hid (one_call O1.out hb2)
          refine hK.out _ _ O2.out (fun hHeld2 => ?_)
          clear hK K hHeld hb2
          try simp only [Act.put, List.setIfInBounds_toArray, List.set_cons_zero, List.set_cons_succ]
          refine wpAnyK_step (i := 7) rfl (by kernel_rfl) (fun K hK => ?_)
          go_simp
          refine (rat_at a n cap zs P inc G.out _ t rfl (by omega) v2 HV2.out _ (one_row O2.out)).mono ?_
          rintro e w3 ⟨rfl, hb3⟩
          have O3 := Lib.hid (one_call O2.out hb3)
          refine hK.out _ _ O3.out (fun hHeld3 => ?_)
          clear hK K hHeld2 hb3
          try simp only [Act.put, List.setIfInBounds_toArray, List.set_cons_zero, List.set_cons_succ]
          refine wpAnyK_take (i := 15) (v := ?_) rfl (by kernel_rfl) (fun _ _ _ h => h) (Or.inl ⟨by rfl, ?_⟩) (by assumption) ?_
          rotate_left
          · (intro w hSw; (try dsimp only at hSw); go_simp; try with_reducible rfl)
          try simp only [Act.put, List.setIfInBounds_toArray, List.set_cons_zero, List.set_cons_succ]
          refine wpAnyK_done (by kernel_rfl) ?_
          simp only [List.drop_succ_cons, List.drop_zero]
          clear hHeld3
          by_cases hv : v1 = v2 + d
          · have tv : (v1 != v2 + d) = false := by simpa using hv
            have HV3 := Lib.hid hv
            have HB3 := Lib.hid (HBx.out.trans ((one_below O3.out).mono HBx.out.size))
            clear hv
            go_wp2_with fail
            go_roundw
            case rel =>
              have hall2 : Hid (∀ u, s ≤ u → u < t + 1 → f (u + q) = f u + d) := Lib.hid fun u h1 h2 => by
                by_cases he : u = t
                · subst he; rw [HV.out.1, HV.out.2]; exact HV3.out
                · exact hall.out u h1 (by omega)
              exact ⟨t + 1, by go_num, by omega, by omega, hall2, HB3⟩
            case measure => simp [intOf]; omega
          · have tv : (v1 != v2 + d) = true := by simpa using hv
            have HV3 := Lib.hid hv
            have HB3 := Lib.hid (HBx.out.trans ((one_below O3.out).mono HBx.out.size))
            clear hv
            go_wp2_with fail
            go_ret
            refine ⟨false, ⟨fun h => absurd h (by decide), fun h => ?_⟩, rfl, HBl.out.trans (HB3.out.mono HBl.out.size)⟩
            have h3 := (HO.out.1 h).2.2 t ht1 hlt
            rw [HV.out.1, HV.out.2] at h3
            exact absurd h3 HV3.out
        · have hlt' : ¬ (t : Int) < (s : Int) + (P : Int) := by omega
          obtain rfl : t = s + P := by omega
          go_wp2_with fail
          go_ret
          refine ⟨true, ⟨fun _ => HO.out.2 ⟨H0.out, H2.out, fun u h1 h2 => hall.out u h1 h2⟩, fun _ => rfl⟩, rfl, HBl.out.trans (HBx.out.mono HBl.out.size)⟩
    · have t2 : (m2 != 0) = true := by simpa using h2
      have H2 := Lib.hid h2
      clear h2
      go_enter Try.func56, Try.ntmps56
      go_wp2_with fail
      go_ret
      exact ⟨false, ⟨fun h => absurd h (by decide), fun h => absurd (HO.out.1 h).2.1 H2.out⟩, rfl, HBl.out⟩
  · have t0 : ((m : Int) != 0) = true := by simp; omega
    have H0 := Lib.hid h0
    clear h0
    go_enter Try.func56, Try.ntmps56
    go_wp2_with fail
    go_ret
    exact ⟨false, ⟨fun h => absurd h (by decide), fun h => absurd (HO.out.1 h).1 H0.out⟩, rfl, HBl.out⟩

end Go.Proofs.Ytdakadgfnlpogaa
