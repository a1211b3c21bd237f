/- Contract of the document's periodic, and what it has to do with the least period. By the verifier's side. | Contract of the document's Least, at a finite curve. By the verifier's side. | Contracts of the document's Least at a curve that is not finite; Least, Normal, Finite, Start, Equal. By the verifier's side. -/
import Derived.Test.YtkienpbmoilheaaGreatARefA
import Derived.Deep.RegionHeld3
import Derived.Test.YtkienpbmoilheaaGreatABaseApartPickKeepS
import Derived.Test.YtkienpbmoilheaaGreatACurSLongKeepC
import Derived.Deep.DeepCutAuto
import Derived.Test.YtkienpbmoilheaaGreatACurX
import Derived.RegionTactic
import Derived.WalkSpells
namespace Go.Proofs.YtkienpbmoilheaaGreat
open Go.RowKit
set_option linter.unusedSimpArgs false

/-- The document's test of a period. -/
def PerOk (f : Nat → Int) (s P : Nat) (I : Int) (q : Nat) : Prop := P % q = 0 ∧ I * (q : Int) % (P : Int) = 0 ∧ ∀ t, s ≤ t → t < s + P → f (t + q) = f t + I * (q : Int) / (P : Int)

theorem PerOk.grows {f : Nat → Int} {s P q : Nat} {I : Int} (h : PerOk f s P I q) : GrowsAt f s P q := fun t h1 h2 => by
  have e1 := h.2.2 t (by omega) h2
  have e2 := h.2.2 s (Nat.le_refl _) (by omega)
  omega

theorem perOk_self {f : Nat → Int} {s P : Nat} {I : Int} (hP : 1 ≤ P) (h : Per f s P I) : PerOk f s P I P := by
  have hp0 : (P : Int) ≠ 0 := by omega
  exact ⟨Nat.mod_self _, Int.mul_emod_left _ _, fun t h1 _ => by rw [Int.mul_ediv_cancel _ hp0]; exact h t h1⟩

theorem least_div {f : Nat → Int} {s P r : Nat} {I c : Int} (hP : Per f s P I) (hr : Per f s r c) (pos : 1 ≤ r) (least : ∀ q, 1 ≤ q → q < r → ∀ c', ¬ Per f s q c') : P % r = 0 ∧ I = ((P / r : Nat) : Int) * c := by
  have hm := hP.mod hr
  have hlt := Nat.mod_lt P pos
  have h0 : P % r = 0 := by
    rcases Nat.eq_zero_or_pos (P % r) with h0 | hpos
    · exact h0
    · exact absurd hm (least _ hpos hlt _)
  refine ⟨h0, ?_⟩
  rw [h0] at hm
  have := hm s (Nat.le_refl _)
  rw [Nat.add_zero] at this
  omega

theorem leastp_ex (Q : Nat → Prop) : ∀ P, 1 ≤ P → Q P → ∃ r, 1 ≤ r ∧ r ≤ P ∧ Q r ∧ ∀ q, 1 ≤ q → q < r → ¬ Q q := by
  intro P
  induction P using Nat.strongRecOn with
  | ind P ih =>
    intro h1 hQ
    by_cases h : ∃ q, 1 ≤ q ∧ q < P ∧ Q q
    · obtain ⟨q, hq1, hq2, hq3⟩ := h
      obtain ⟨r, a, b, c, d⟩ := ih q hq2 hq1 hq3
      exact ⟨r, a, by omega, c, d⟩
    · exact ⟨P, h1, Nat.le_refl _, hQ, fun q a b c => h ⟨q, a, b, c⟩⟩

/-- The first number that passes the document's test is the least period. -/
theorem perOk_least {f : Nat → Int} {s P r : Nat} {I : Int} (hP : 1 ≤ P) (h : Per f s P I) (hl : ∀ q, 1 ≤ q → q < r → ¬ PerOk f s P I q) : ∀ q, 1 ≤ q → q < r → ¬ GrowsAt f s P q := by
  intro q hq1 hq2 hg
  have hPg : GrowsAt f s P P := (perOk_self hP h).grows
  obtain ⟨r0, a1, a2, a3, a4⟩ := leastp_ex (GrowsAt f s P) q hq1 hg
  obtain ⟨s', c, hk⟩ := (grows_iff h hP).1 a3
  have hk' := h.any hP hk
  obtain ⟨b1, b2⟩ := least_div h hk' a1 (fun q' c1 c2 c' hc' => a4 q' c1 c2 ((grows_iff h hP).2 ⟨s, c', hc'⟩))
  refine hl r0 a1 (by omega) ⟨b1, ?_, ?_⟩
  all_goals
    have e : P = P / r0 * r0 := by have := Nat.mod_add_div P r0; rw [b1, Nat.zero_add, Nat.mul_comm] at this; exact this.symm
    have e2 : I * (r0 : Int) = c * (P : Int) := by
      conv => rhs; rw [e]
      rw [b2, Int.natCast_mul]; grind
    rw [e2]
  · exact Int.mul_emod_left _ _
  · intro t h1 _
    rw [Int.mul_ediv_cancel _ (by omega)]
    exact hk' t h1

/-- One curve in box F, and its row, behind something that leaves them alone. -/
abbrev OneS (W : World) (F : Nat) (a : Option Addr) (n cap p : Nat) (inc : Int) (zs : List Int) (w' : World) : Prop :=
  w'.cell? ⟨F, 0, none⟩ = some (.slice a n cap) ∧ w'.cell? ⟨F, 1, none⟩ = some (.int .i64 p) ∧ w'.cell? ⟨F, 2, none⟩ = some (.int .i64 inc) ∧ Hid (Below W.heap.size W w' ∧ Cur3 w' F (.slice a n cap) (.int .i64 p) (.int .i64 inc) ∧ RowZ w' a n cap zs)
section
variable {W u v : World} {F : Nat} {a : Option Addr} {n cap p : Nat} {inc : Int} {zs : List Int}
theorem one_s (h : Cur3 u F (.slice a n cap) (.int .i64 p) (.int .i64 inc)) (hr : RowZ u a n cap zs) (hb : Below W.heap.size W u) : OneS W F a n cap p inc zs u := ⟨h.c0, h.c1, h.c2, hb, h, hr⟩
theorem one_row (h : OneS W F a n cap p inc zs u) : RowZ u a n cap zs := h.2.2.2.out.2.2
theorem one_box (h : OneS W F a n cap p inc zs u) : Cur3 u F (.slice a n cap) (.int .i64 p) (.int .i64 inc) := h.2.2.2.out.2.1
theorem one_below (h : OneS W F a n cap p inc zs u) : Below W.heap.size W u := h.2.2.2.out.1
theorem one_call (h : OneS W F a n cap p inc zs u) (hb : Below u.heap.size u v) : OneS W F a n cap p inc zs v :=
  one_s ((one_box h).below hb) ((one_row h).under hb) ((one_below h).trans (hb.mono (one_below h).size))
theorem one_drew (h : Cur3 W F (.slice a n cap) (.int .i64 p) (.int .i64 inc)) (hr : RowZ W a n cap zs) : OneS W F a n cap p inc zs W.drew :=
  one_s (h.below (Below.refl _ _).drew) (hr.under (Below.refl _ _).drew) (Below.refl _ _).drew
end

/-- What periodic hands back. -/
def PerSays (f : Nat → Int) (s P : Nat) (I : Int) (q : Nat) (w : World) (e : Ending) (w' : World) : Prop := ∃ b : Bool, (b = true ↔ PerOk f s P I q) ∧ e = .returned (.bool b) ∧ Below w.heap.size w w'

set_option maxRecDepth 100000 in
set_option maxHeartbeats 3200000 in
theorem rper_any (a : Option Addr) (n cap : Nat) (zs : List Int) (P : Nat) (inc : Int) (g : Good zs P inc) (hf : ¬ zs.getD (zs.length - 1) 0 = infV) (s q : Nat) (hs : s + P = n) (hq1 : 1 ≤ q) (hq2 : q ≤ P) (w : World) (h : RowZ w a n cap zs) :
    Calls Tryz.prog 62 #[curV a n cap P inc, .int .i64 s, .int .i64 q] w (PerSays (atC zs P inc) s P inc q w) := by
  have HBl := Lib.hid (box_below w (.cells #[.slice a n cap, .int .i64 P, .int .i64 inc] 24))
  have R0 := Lib.hid (h.under HBl.out)
  have B0 := Lib.hid (Cur3.new w (.slice a n cap) (.int .i64 P) (.int .i64 inc) 24)
  have G := Lib.hid g
  have hn4 : n ≤ 400 := by have := g.few; have := h.len; omega
  have hP1 := g.p1; have hP2 := g.p2; have hi0 := g.i0; have hi1 := g.i1
  obtain ⟨f, hfe⟩ : ∃ f, atC zs P inc = f := ⟨_, rfl⟩
  have HBD : Hid (∀ t : Nat, 0 ≤ f t ∧ f t ≤ 1073741824 * ((t : Int) + 1)) := Lib.hid (by rw [← hfe]; exact g.bd hf)
  have HF := Lib.hid hfe
  rw [hfe]
  obtain ⟨m, hm⟩ : ∃ m, P % q = m := ⟨_, rfl⟩
  have hmI : (P : Int) % (q : Int) = (m : Int) := by rw [← hm]; simp
  obtain ⟨X, hX⟩ : ∃ X, inc * (q : Int) = X := ⟨_, rfl⟩
  have hXb : 0 ≤ X ∧ X ≤ 1073741824 * 120 := by rw [← hX]; exact ⟨Int.mul_nonneg hi0 (by omega), Int.mul_le_mul hi1 (by omega) (by omega) (by omega)⟩
  obtain ⟨hX0, hX1⟩ := hXb
  have hXw : IntKind.i64.wrap (inc * (q : Int)) = X := by rw [hX]; exact IntWalk.i64_in _ ⟨by omega, by omega⟩
  obtain ⟨m2, hm2⟩ : ∃ m2, X % (P : Int) = m2 := ⟨_, rfl⟩
  obtain ⟨d, hd⟩ : ∃ d, X / (P : Int) = d := ⟨_, rfl⟩
  have hdb : 0 ≤ d ∧ d ≤ X := by rw [← hd]; exact ⟨Int.ediv_nonneg hX0 (by omega), Int.ediv_le_self _ hX0⟩
  obtain ⟨hd0, hd1⟩ := hdb
  have HO : Hid (PerOk f s P inc q ↔ m = 0 ∧ m2 = 0 ∧ ∀ t, s ≤ t → t < s + P → f (t + q) = f t + d) := Lib.hid (by unfold PerOk; rw [hm, hX, hm2, hd])
  have HM := Lib.hid (And.intro hm hX)
  have z1 : ¬ (P : Int) = 0 := by omega
  have z2 : (1 : Int) ≤ (P : Int) := by omega
  have z3 : (0 : Int) ≤ (P : Int) := by omega
  have z4 : X.tdiv (P : Int) = d := by rw [Int.tdiv_eq_ediv_of_nonneg hX0]; exact hd
  have z5 : ((P : Int) == 0) = false := by simp; omega
  have z7 : ¬ P = 0 := by omega
  have z6 : IntKind.i64.wrap d = d := IntWalk.i64_in _ ⟨by omega, by omega⟩
  clear h g hf hfe hm hX
  by_cases h0 : m = 0
  · have t0 : ((m : Int) != 0) = false := by simp [h0]
    have H0 := Lib.hid h0
    clear h0
    by_cases h2 : m2 = 0
    · have t2 : (m2 != 0) = false := by simp [h2]
      have H2 := Lib.hid h2
      clear h2
      go_enter Tryz.func62, Tryz.ntmps62
      go_wp2_with fail
      simp only [hmI, hm2]
      generalize w.alloc (.cells #[.slice a n cap, .int .i64 P, .int .i64 inc] 24) = w0 at HBl R0 B0 ⊢
      go_loopw [7] (fun s7 wx => ∃ t : Nat, s7 = .int .i64 t ∧ s ≤ t ∧ t ≤ s + P ∧ Hid (∀ u, s ≤ u → u < t → f (u + q) = f u + d) ∧ Hid (Below w0.heap.size w0 wx)) (fun s7 _ => s + P - (intOf s7).toNat)
      case atStart => exact ⟨s, rfl, Nat.le_refl _, Nat.le_add_right _ _, fun u h1 h2 => by omega, Below.refl _ _⟩
      case round =>
        obtain ⟨t, rfl, ht1, ht2, hall, HBx⟩ := hrel
        obtain ⟨w1, rfl⟩ : ∃ u : World, u = wr := ⟨_, rfl⟩
        have B1 := Lib.hid (B0.out.below HBx.out)
        have R1 := Lib.hid (R0.out.under HBx.out)
        obtain ⟨c0, c1, c2, f0, f1, f2⟩ := B1.out
        by_cases hlt : t < s + P
        · have hlt' : (t : Int) < (s : Int) + (P : Int) := by omega
          obtain ⟨v1, hv1⟩ : ∃ v, f (t + q) = v := ⟨_, rfl⟩
          obtain ⟨v2, hv2⟩ : ∃ v, f t = v := ⟨_, rfl⟩
          have b1 := HBD.out (t + q)
          have b2 := HBD.out t
          rw [hv1] at b1
          rw [hv2] at b2
          have e1 := HF.out
          have HV1 : Hid (atC zs P inc (t + q) = v1) := Lib.hid (by rw [e1]; exact hv1)
          have HV2 : Hid (atC zs P inc t = v2) := Lib.hid (by rw [e1]; exact hv2)
          have HV := Lib.hid (And.intro hv1 hv2)
          have s1 : IntKind.i64.wrap (v2 + d) = v2 + d := IntWalk.i64_in _ ⟨by omega, by omega⟩
          have s2 : IntKind.i64.wrap ((t : Int) + (q : Int)) = (t : Int) + (q : Int) := IntWalk.i64_in _ ⟨by omega, by omega⟩
          have s3 : IntKind.i64.wrap d = d := IntWalk.i64_in _ ⟨by omega, by omega⟩
          clear e1 hv1 hv2 b1 b2
          go_wp2_with fail
          have O1 := Lib.hid (one_drew B1.out R1.out)
          refine wp_region_keeps (fun u => OneS w1 w.heap.size a n cap P inc zs u) 16 1 (by kernel_rfl) (by kernel_rfl) O1.out (fun hHeld => ?_)
          refine wpAnyK_take (i := 0) (v := ?_) rfl (by kernel_rfl) (fun _ _ _ h => h) (Or.inl ⟨by rfl, ?_⟩) (by assumption) ?_
          rotate_left
          · (intro w hSw; (try dsimp only at hSw); go_simp; try with_reducible rfl)
          try simp only [Act.put, List.setIfInBounds_toArray, List.set_cons_zero, List.set_cons_succ]
          refine wpAnyK_take (i := 1) (v := ?_) rfl (by kernel_rfl) (fun _ _ _ h => h) (Or.inl ⟨by rfl, ?_⟩) (by assumption) ?_
          rotate_left
          · (intro w hSw; (try dsimp only at hSw); go_simp; try with_reducible rfl)
          try simp only [Act.put, List.setIfInBounds_toArray, List.set_cons_zero, List.set_cons_succ]
          refine wpAnyK_take (i := 2) (v := ?_) rfl (by kernel_rfl) (fun _ _ _ h => h) (Or.inl ⟨by rfl, ?_⟩) (by assumption) ?_
          rotate_left
          · (intro w hSw; (try dsimp only at hSw); go_simp; try with_reducible rfl)
          try simp only [Act.put, List.setIfInBounds_toArray, List.set_cons_zero, List.set_cons_succ]
          refine wpAnyK_take (i := 3) (v := ?_) rfl (by kernel_rfl) (fun _ _ _ h => h) (Or.inl ⟨by rfl, ?_⟩) (by assumption) ?_
          rotate_left
          · (intro w hSw; (try dsimp only at hSw); go_simp; try with_reducible rfl)
          try simp only [Act.put, List.setIfInBounds_toArray, List.set_cons_zero, List.set_cons_succ]
          refine wpAnyK_take (i := 5) (v := ?_) rfl (by kernel_rfl) (fun _ _ _ h => h) (Or.inl ⟨by rfl, ?_⟩) (by assumption) ?_
          rotate_left
          · (intro w hSw; (try dsimp only at hSw); go_simp; try with_reducible rfl)
          try simp only [Act.put, List.setIfInBounds_toArray, List.set_cons_zero, List.set_cons_succ]
          refine wpAnyK_take (i := 6) (v := ?_) rfl (by kernel_rfl) (fun _ _ _ h => h) (Or.inl ⟨by rfl, ?_⟩) (by assumption) ?_
          rotate_left
          · (intro w hSw; (try dsimp only at hSw); go_simp; try with_reducible rfl)
          try simp only [Act.put, List.setIfInBounds_toArray, List.set_cons_zero, List.set_cons_succ]
          refine wpAnyK_take (i := 8) (v := ?_) rfl (by kernel_rfl) (fun _ _ _ h => h) (Or.inl ⟨by rfl, ?_⟩) (by assumption) ?_
          rotate_left
          · (intro w hSw; (try dsimp only at hSw); go_simp; try with_reducible rfl)
          try simp only [Act.put, List.setIfInBounds_toArray, List.set_cons_zero, List.set_cons_succ]
          refine wpAnyK_take (i := 9) (v := ?_) rfl (by kernel_rfl) (fun _ _ _ h => h) (Or.inl ⟨by rfl, ?_⟩) (by assumption) ?_
          rotate_left
          · (intro w hSw; (try dsimp only at hSw); go_simp; try with_reducible rfl)
          try simp only [Act.put, List.setIfInBounds_toArray, List.set_cons_zero, List.set_cons_succ]
          refine wpAnyK_take (i := 10) (v := ?_) rfl (by kernel_rfl) (fun _ _ _ h => h) (Or.inl ⟨by rfl, ?_⟩) (by assumption) ?_
          rotate_left
          · (intro w hSw; (try dsimp only at hSw); go_simp; try with_reducible rfl)
          try simp only [Act.put, List.setIfInBounds_toArray, List.set_cons_zero, List.set_cons_succ]
          refine wpAnyK_take (i := 11) (v := ?_) rfl (by kernel_rfl) (fun _ _ _ h => h) (Or.inl ⟨by rfl, ?_⟩) (by assumption) ?_
          rotate_left
          · (intro w hSw; (try dsimp only at hSw); go_simp; try with_reducible rfl)
          try simp only [Act.put, List.setIfInBounds_toArray, List.set_cons_zero, List.set_cons_succ]
          refine wpAnyK_take (i := 12) (v := ?_) rfl (by kernel_rfl) (fun _ _ _ h => h) (Or.inl ⟨by rfl, ?_⟩) (by assumption) ?_
          rotate_left
          · (intro w hSw; (try dsimp only at hSw); go_simp; try with_reducible rfl)
          try simp only [Act.put, List.setIfInBounds_toArray, List.set_cons_zero, List.set_cons_succ]
          refine wpAnyK_take (i := 13) (v := ?_) rfl (by kernel_rfl) (fun _ _ _ h => h) (Or.inl ⟨by rfl, ?_⟩) (by assumption) ?_
          rotate_left
          · (intro w hSw; (try dsimp only at hSw); go_simp; try with_reducible rfl)
          try simp only [Act.put, List.setIfInBounds_toArray, List.set_cons_zero, List.set_cons_succ]
          refine wpAnyK_take (i := 14) (v := ?_) rfl (by kernel_rfl) (fun _ _ _ h => h) (Or.inl ⟨by rfl, ?_⟩) (by assumption) ?_
          rotate_left
          · (intro w hSw; (try dsimp only at hSw); go_simp; try with_reducible rfl)
          try simp only [Act.put, List.setIfInBounds_toArray, List.set_cons_zero, List.set_cons_succ]
          refine wpAnyK_step (i := 4) rfl (by kernel_rfl) (fun K hK => ?_)
          go_simp
          refine (rat_at a n cap zs P inc G.out _ (t + q) (by omega) (by omega) v1 HV1.out _ (one_row O1.out)).mono ?_
          rintro e w2 ⟨rfl, hb2⟩
          have O2 := Lib.hid (one_call O1.out hb2)
          refine hK.out _ _ O2.out (fun hHeld2 => ?_)
          clear hK K hHeld hb2
          try simp only [Act.put, List.setIfInBounds_toArray, List.set_cons_zero, List.set_cons_succ]
          refine wpAnyK_step (i := 7) rfl (by kernel_rfl) (fun K hK => ?_)
          go_simp
          refine (rat_at a n cap zs P inc G.out _ t rfl (by omega) v2 HV2.out _ (one_row O2.out)).mono ?_
          rintro e w3 ⟨rfl, hb3⟩
          have O3 := Lib.hid (one_call O2.out hb3)
          refine hK.out _ _ O3.out (fun hHeld3 => ?_)
          clear hK K hHeld2 hb3
          try simp only [Act.put, List.setIfInBounds_toArray, List.set_cons_zero, List.set_cons_succ]
          refine wpAnyK_take (i := 15) (v := ?_) rfl (by kernel_rfl) (fun _ _ _ h => h) (Or.inl ⟨by rfl, ?_⟩) (by assumption) ?_
          rotate_left
          · (intro w hSw; (try dsimp only at hSw); go_simp; try with_reducible rfl)
          try simp only [Act.put, List.setIfInBounds_toArray, List.set_cons_zero, List.set_cons_succ]
          refine wpAnyK_done (by kernel_rfl) ?_
          simp only [List.drop_succ_cons, List.drop_zero]
          clear hHeld3
          by_cases hv : v1 = v2 + d
          · have tv : (v1 != v2 + d) = false := by simpa using hv
            have HV3 := Lib.hid hv
            have HB3 := Lib.hid (HBx.out.trans ((one_below O3.out).mono HBx.out.size))
            clear hv
            go_wp2_with fail
            go_roundw
            case rel =>
              have hall2 : Hid (∀ u, s ≤ u → u < t + 1 → f (u + q) = f u + d) := Lib.hid fun u h1 h2 => by
                by_cases he : u = t
                · subst he; rw [HV.out.1, HV.out.2]; exact HV3.out
                · exact hall.out u h1 (by omega)
              exact ⟨t + 1, by go_num, by omega, by omega, hall2, HB3⟩
            case measure => simp [intOf]; omega
          · have tv : (v1 != v2 + d) = true := by simpa using hv
            have HV3 := Lib.hid hv
            have HB3 := Lib.hid (HBx.out.trans ((one_below O3.out).mono HBx.out.size))
            clear hv
            go_wp2_with fail
            go_ret
            refine ⟨false, ⟨fun h => absurd h (by decide), fun h => ?_⟩, rfl, HBl.out.trans (HB3.out.mono HBl.out.size)⟩
            have h3 := (HO.out.1 h).2.2 t ht1 hlt
            rw [HV.out.1, HV.out.2] at h3
            exact absurd h3 HV3.out
        · have hlt' : ¬ (t : Int) < (s : Int) + (P : Int) := by omega
          obtain rfl : t = s + P := by omega
          go_wp2_with fail
          go_ret
          refine ⟨true, ⟨fun _ => HO.out.2 ⟨H0.out, H2.out, fun u h1 h2 => hall.out u h1 h2⟩, fun _ => rfl⟩, rfl, HBl.out.trans (HBx.out.mono HBl.out.size)⟩
    · have t2 : (m2 != 0) = true := by simpa using h2
      have H2 := Lib.hid h2
      clear h2
      go_enter Tryz.func62, Tryz.ntmps62
      go_wp2_with fail
      go_ret
      exact ⟨false, ⟨fun h => absurd h (by decide), fun h => absurd (HO.out.1 h).2.1 H2.out⟩, rfl, HBl.out⟩
  · have t0 : ((m : Int) != 0) = true := by simp; omega
    have H0 := Lib.hid h0
    clear h0
    go_enter Tryz.func62, Tryz.ntmps62
    go_wp2_with fail
    go_ret
    exact ⟨false, ⟨fun h => absurd h (by decide), fun h => absurd (HO.out.1 h).1 H0.out⟩, rfl, HBl.out⟩

end Go.Proofs.YtkienpbmoilheaaGreat

namespace Go.Proofs.YtkienpbmoilheaaGreat
open Go.RowKit
set_option linter.unusedSimpArgs false

theorem firsts_take {zs : List Int} {p : Nat} {inc : Int} {m : Nat} (h : m ≤ zs.length) : firsts (atC zs p inc) m = zs.take m := by
  refine list_ext_getD (by rw [firsts_length, List.length_take]; omega) fun i hi => ?_
  rw [firsts_length] at hi
  rw [firsts_getD _ _ _ hi, getD_take hi, atC_lt (by omega)]

/-- What stands in Least: the curve's box and row, the result's box. -/
structure Ls (w : World) (a : Option Addr) (n cap P : Nat) (inc : Int) (zs : List Int) (wx : World) : Prop where
  bl : Below w.heap.size w wx
  bf : Cur3 wx w.heap.size (.slice a n cap) (.int .i64 P) (.int .i64 inc)
  rf : RowZ wx a n cap zs
  br : Cur3 wx (w.heap.size + 1) (.slice none 0 0) (.int .i64 0) (.int .i64 0)
theorem Ls.under {w u v : World} {a : Option Addr} {n cap P : Nat} {inc : Int} {zs : List Int} (h : Ls w a n cap P inc zs u) (hb : Below u.heap.size u v) : Ls w a n cap P inc zs v :=
  ⟨h.bl.trans (hb.mono h.bl.size), h.bf.below hb, h.rf.under hb, h.br.below hb⟩
abbrev LsS (w : World) (a : Option Addr) (n cap P : Nat) (inc : Int) (zs : List Int) (wx : World) : Prop :=
  wx.cell? ⟨w.heap.size, 0, none⟩ = some (.slice a n cap) ∧ wx.cell? ⟨w.heap.size, 1, none⟩ = some (.int .i64 P) ∧ wx.cell? ⟨w.heap.size, 2, none⟩ = some (.int .i64 inc) ∧ Hid (Ls w a n cap P inc zs wx)
theorem ls_s {w u : World} {a : Option Addr} {n cap P : Nat} {inc : Int} {zs : List Int} (h : Ls w a n cap P inc zs u) : LsS w a n cap P inc zs u := ⟨h.bf.c0, h.bf.c1, h.bf.c2, h⟩

theorem Ls.grow {w u v : World} {a : Option Addr} {n cap P : Nat} {inc : Int} {zs : List Int} (h : Ls w a n cap P inc zs u) (h0 : RowZ w a n cap zs) {row : Option Nat} (hg : u.grownBy v row) (hr : ∀ j, row = some j → w.heap.size + 1 + 1 ≤ j) {O : Nat} (hO : w.heap.size + 1 < O) (x : Value) :
    Ls w a n cap P inc zs (v.setCell ⟨O, 0, none⟩ x) := by
  have hb : Below w.heap.size w (v.setCell ⟨O, 0, none⟩ x) := (h.bl.grown hg h.bl.size (fun j hj => by have := hr j hj; omega)).setCell (p := ⟨O, 0, none⟩) (by show w.heap.size ≤ O; omega) x
  exact ⟨hb, (h.bf.grown hg (fun j hj => by have := hr j hj; omega)).other (by omega) _ _, h0.under hb, (h.br.grown hg (fun j hj => by have := hr j hj; omega)).other (by omega) _ _⟩

set_option maxRecDepth 100000 in
set_option maxHeartbeats 1000000 in
theorem rleast_fin (a : Option Addr) (n cap : Nat) (zs : List Int) (P : Nat) (inc : Int) (g : Good zs P inc) (hf : ¬ zs.getD (zs.length - 1) 0 = infV) (w : World) (h : RowZ w a n cap zs) :
    Calls Tryz.prog 37 #[curV a n cap P inc] w (GivesNorm zs P inc w) := by
  obtain ⟨i0, hi, hz0, hz1, hz2⟩ := info_parts info_int
  have hB : Below w.heap.size w ((w.alloc (.cells #[.slice a n cap, .int .i64 P, .int .i64 inc] 24)).alloc (.cells #[.slice none 0 0, .int .i64 0, .int .i64 0] 24)) := ((Below.refl _ _).alloc (Nat.le_refl _) _).alloc (by simp) _
  have H0 := Lib.hid h
  have L0 := Lib.hid (show Ls w a n cap P inc zs ((w.alloc (.cells #[.slice a n cap, .int .i64 P, .int .i64 inc] 24)).alloc (.cells #[.slice none 0 0, .int .i64 0, .int .i64 0] 24)) from
    ⟨hB, (Cur3.new w _ _ _ _).alloc _, h.under hB, Cur3.new2 w _ _ _ _ _⟩)
  have G := Lib.hid g
  have HL := Lib.hid h.len
  have HFI := Lib.hid hf
  have hn4 : n ≤ 400 := by have := g.few; have := h.len; omega
  have hP1 := g.p1; have hP2 := g.p2; have hi0 := g.i0; have hi1 := g.i1
  have hPn : P ≤ n := by have := g.p3; have := h.len; omega
  obtain ⟨s, hs⟩ : ∃ s, n = s + P := ⟨n - P, by omega⟩
  obtain ⟨f, hfe⟩ : ∃ f, atC zs P inc = f := ⟨_, rfl⟩
  have HBD : Hid (∀ t : Nat, 0 ≤ f t ∧ f t ≤ 1073741824 * ((t : Int) + 1)) := Lib.hid (by rw [← hfe]; exact g.bd hf)
  have HPER : Hid (Per f s P inc) := Lib.hid (by rw [← hfe]; have := g.per hf; rwa [h.len, show n - P = s by omega] at this)
  have HF := Lib.hid hfe
  have hsn : (n : Int) - (P : Int) = (s : Int) := by omega
  have HSN := Lib.hid hs
  have hs4 : s ≤ 400 := by omega
  clear h hB g hf hfe hs
  go_enter Tryz.func37, Tryz.ntmps37
  go_wp2_with fail
  generalize (w.alloc (.cells #[.slice a n cap, .int .i64 P, .int .i64 inc] 24)).alloc (.cells #[.slice none 0 0, .int .i64 0, .int .i64 0] 24) = w0 at L0 ⊢
  go_loopw [3] (fun s3 wx => ∃ k : Nat, s3 = .int .i64 k ∧ k ≤ n ∧ Hid (Ls w a n cap P inc zs wx)) (fun s3 _ => n - (intOf s3).toNat)
  case atStart => exact ⟨0, rfl, Nat.zero_le _, L0⟩
  case round =>
    clear L0
    obtain ⟨k, rfl, hk, L0⟩ := hrel
    obtain ⟨w0, rfl⟩ : ∃ u : World, u = wr := ⟨_, rfl⟩
    obtain ⟨c0, c1, c2, f0, f1, f2⟩ := L0.out.bf
    by_cases hlt : k < n
    · obtain ⟨x, rfl, ck⟩ := L0.out.rf.cell k hlt
      obtain ⟨v, hv⟩ : ∃ v, zs.getD k 0 = v := ⟨_, rfl⟩
      have hb := G.out.small HFI.out (i := k) (by rw [HL.out]; exact hlt)
      rw [hv] at ck hb
      have tv : (v == 4611686018427387904) = false := by simp; omega
      clear hv hb
      go_wp2_with fail
      go_roundw
      case rel => exact ⟨k + 1, by go_num, by omega, L0⟩
      case measure => simp [intOf]; omega
    · obtain rfl : k = n := by omega
      go_wp2_with fail
      clear c0 c1 c2 f0 f1 f2 hlt
      go_loopw [5] (fun s5 wx => ∃ q : Nat, s5 = .int .i64 q ∧ 1 ≤ q ∧ q ≤ P ∧ Hid (∀ r, 1 ≤ r → r < q → ¬ PerOk f s P inc r) ∧ Hid (Ls w a k cap P inc zs wx)) (fun s5 _ => P - (intOf s5).toNat)
      case atStart => exact ⟨1, rfl, by omega, by omega, fun r h1 h2 => by omega, L0⟩
      case round =>
        obtain ⟨q, rfl, hq1, hq2, hall, L1⟩ := hrel
        obtain ⟨w1, rfl⟩ : ∃ u : World, u = wr := ⟨_, rfl⟩
        obtain ⟨c0, c1, c2, f0, f1, f2⟩ := L1.out.bf
        go_wp2_with fail
        refine (rper_any a k cap zs P inc G.out HFI.out s q (by have := HSN.out; omega) hq1 hq2 _ L1.out.rf).mono ?_
        rintro e w2 ⟨b, hb, rfl, hb2⟩
        have HBB := Lib.hid hb
        have L2 := Lib.hid (L1.out.under hb2)
        clear hb hb2 c0 c1 c2 f0 f1 f2
        cases b with
        | false =>
          have hno : ¬ PerOk f s P inc q := fun hp => absurd (HBB.out.2 (by rw [HF.out]; exact hp)) (by decide)
          have hqP : q < P := by
            rcases Nat.lt_or_ge q P with h1 | h1
            · exact h1
            · exact absurd (by rw [show q = P by omega]; exact perOk_self hP1 HPER.out) hno
          have HNO := Lib.hid hno
          clear hno
          go_wp2_with fail
          go_roundw
          case rel =>
            refine ⟨q + 1, by go_num, by omega, by omega, Lib.hid fun r h1 h2 => ?_, L2⟩
            by_cases he : r = q
            · subst he; exact HNO.out
            · exact hall.out r h1 (by omega)
          case measure => simp [intOf]; omega
        | true =>
          have hyes : PerOk f s P inc q := by have := HBB.out.1 rfl; rwa [HF.out] at this
          obtain ⟨X, hX⟩ : ∃ X, inc * (q : Int) = X := ⟨_, rfl⟩
          have hXb : 0 ≤ X ∧ X ≤ 1073741824 * 120 := by rw [← hX]; exact ⟨Int.mul_nonneg hi0 (by omega), Int.mul_le_mul hi1 (by omega) (by omega) (by omega)⟩
          obtain ⟨hX0, hX1⟩ := hXb
          have hXw : IntKind.i64.wrap (inc * (q : Int)) = X := by rw [hX]; exact IntWalk.i64_in _ ⟨by omega, by omega⟩
          obtain ⟨d, hd⟩ : ∃ d, X / (P : Int) = d := ⟨_, rfl⟩
          have hdb : 0 ≤ d ∧ d ≤ X := by rw [← hd]; exact ⟨Int.ediv_nonneg hX0 (by omega), Int.ediv_le_self _ hX0⟩
          obtain ⟨hd0, hd1⟩ := hdb
          have hdf : f (s + q) - f s = d := by have h1 := hyes.2.2 s (Nat.le_refl _) (by omega); rw [hX, hd] at h1; omega
          have HG := Lib.hid (hyes.grows)
          have HD := Lib.hid hdf
          have z1 : ¬ (P : Int) = 0 := by omega
          have z2 : (1 : Int) ≤ (P : Int) := by omega
          have z4 : X.tdiv (P : Int) = d := by rw [Int.tdiv_eq_ediv_of_nonneg hX0]; exact hd
          have z6 : IntKind.i64.wrap d = d := IntWalk.i64_in _ ⟨by omega, by omega⟩
          have z7 : ¬ P = 0 := by omega
          clear hyes hX hdf
          obtain ⟨c0, c1, c2, f0, f1, f2⟩ := L2.out.bf
          go_wp2_with fail
          clear c0 c1 c2 f0 f1 f2 hd z4 hXw
          go_loopw [4] (fun s4 wx => ∃ t : Nat, s4 = .int .i64 t ∧ t ≤ s ∧ Hid (∀ u, t ≤ u → u < s → f (u + q) - f u = d) ∧ Hid (Ls w a k cap P inc zs wx)) (fun s4 _ => (intOf s4).toNat)
          case atStart => exact ⟨s, rfl, Nat.le_refl _, fun u h1 h2 => by omega, L2⟩
          case round =>
            obtain ⟨t, rfl, ht, hall2, L3⟩ := hrel
            obtain ⟨w3, rfl⟩ : ∃ u : World, u = wr := ⟨_, rfl⟩
            go_wp2_with fail
            go_cut [66] (fun s66 wx => ∃ bt : Bool, s66 = .bool bt ∧ (bt = true ↔ 0 < t ∧ f (t - 1 + q) = f (t - 1) + d) ∧ Hid (Ls w a k cap P inc zs wx))
            case first =>
              by_cases ht0 : t = 0
              · have u1 : decide (0 < t) = false := by simp; omega
                have u2 : decide ((0 : Int) < (t : Int)) = false := by simp; omega
                have HT := Lib.hid ht0
                clear ht0
                obtain ⟨c0, c1, c2, f0, f1, f2⟩ := L3.out.bf
                go_quiet (fail)
                go_wp2_with fail
                go_meet
                exact ⟨false, rfl, ⟨fun h => absurd h (by decide), fun h => by have := HT.out; omega⟩, L3.out.under ((Below.refl _ _).drewN _)⟩
              · have u1 : decide (0 < t) = true := by simp; omega
                have u2 : decide ((0 : Int) < (t : Int)) = true := by simp; omega
                have u3 : 0 < t := by omega
                obtain ⟨j, hj⟩ : ∃ j, t = j + 1 := ⟨t - 1, by omega⟩
                obtain ⟨v1, hv1⟩ : ∃ v, f (j + q) = v := ⟨_, rfl⟩
                obtain ⟨v2, hv2⟩ : ∃ v, f j = v := ⟨_, rfl⟩
                have b1 := HBD.out (j + q)
                have b2 := HBD.out j
                rw [hv1] at b1
                rw [hv2] at b2
                have e1 := HF.out
                have HV1 : Hid (atC zs P inc (j + q) = v1) := Lib.hid (by rw [e1]; exact hv1)
                have HV2 : Hid (atC zs P inc j = v2) := Lib.hid (by rw [e1]; exact hv2)
                have HV : Hid (f (t - 1 + q) = v1 ∧ f (t - 1) = v2) := Lib.hid (by rw [show t - 1 = j by omega]; exact ⟨hv1, hv2⟩)
                have s1 : IntKind.i64.wrap (v2 + d) = v2 + d := IntWalk.i64_in _ ⟨by omega, by omega⟩
                have s2 : IntKind.i64.wrap ((t : Int) - 1) = (j : Int) := by rw [show (t : Int) - 1 = (j : Int) by omega]; exact IntWalk.i64_in _ ⟨by omega, by omega⟩
                have s3 : (t : Int) - 1 = (j : Int) := by omega
                have s4 : IntKind.i64.wrap ((j : Int) + (q : Int)) = (j : Int) + (q : Int) := IntWalk.i64_in _ ⟨by omega, by omega⟩
                have s5 : IntKind.i64.wrap (j : Int) = (j : Int) := IntWalk.i64_in _ ⟨by omega, by omega⟩
                have hj4 : j ≤ 400 := by omega
                clear e1 hv1 hv2 b1 b2 ht0 hj
                have O1 := Lib.hid (ls_s (L3.out.under (Below.refl _ _).drew))
                refine wp_region_keeps (fun u => LsS w a k cap P inc zs u) 16 1 (by kernel_rfl) (by kernel_rfl) O1.out (fun hHeld => ?_)
                refine wpAnyK_take (i := 0) (v := ?_) rfl (by kernel_rfl) (fun _ _ _ h => h) (Or.inl ⟨by rfl, ?_⟩) (by assumption) ?_
                rotate_left
                · (intro w hSw; (try dsimp only at hSw); go_simp; try with_reducible rfl)
                try simp only [Act.put, List.getElem_toArray, List.getElem_cons_zero, List.getElem_cons_succ, List.setIfInBounds_toArray, List.set_cons_zero, List.set_cons_succ]
                refine wpAnyK_take (i := 1) (v := ?_) rfl (by kernel_rfl) (fun _ _ _ h => h) (Or.inl ⟨by rfl, ?_⟩) (by assumption) ?_
                rotate_left
                · (intro w hSw; (try dsimp only at hSw); go_simp; try with_reducible rfl)
                try simp only [Act.put, List.getElem_toArray, List.getElem_cons_zero, List.getElem_cons_succ, List.setIfInBounds_toArray, List.set_cons_zero, List.set_cons_succ]
                refine wpAnyK_take (i := 2) (v := ?_) rfl (by kernel_rfl) (fun _ _ _ h => h) (Or.inl ⟨by rfl, ?_⟩) (by assumption) ?_
                rotate_left
                · (intro w hSw; (try dsimp only at hSw); go_simp; try with_reducible rfl)
                try simp only [Act.put, List.getElem_toArray, List.getElem_cons_zero, List.getElem_cons_succ, List.setIfInBounds_toArray, List.set_cons_zero, List.set_cons_succ]
                refine wpAnyK_take (i := 3) (v := ?_) rfl (by kernel_rfl) (fun _ _ _ h => h) (Or.inl ⟨by rfl, ?_⟩) (by assumption) ?_
                rotate_left
                · (intro w hSw; (try dsimp only at hSw); go_simp; try with_reducible rfl)
                try simp only [Act.put, List.getElem_toArray, List.getElem_cons_zero, List.getElem_cons_succ, List.setIfInBounds_toArray, List.set_cons_zero, List.set_cons_succ]
                refine wpAnyK_take (i := 4) (v := ?_) rfl (by kernel_rfl) (fun _ _ _ h => h) (Or.inl ⟨by rfl, ?_⟩) (by assumption) ?_
                rotate_left
                · (intro w hSw; (try dsimp only at hSw); go_simp; try with_reducible rfl)
                try simp only [Act.put, List.getElem_toArray, List.getElem_cons_zero, List.getElem_cons_succ, List.setIfInBounds_toArray, List.set_cons_zero, List.set_cons_succ]
                refine wpAnyK_take (i := 5) (v := ?_) rfl (by kernel_rfl) (fun _ _ _ h => h) (Or.inl ⟨by rfl, ?_⟩) (by assumption) ?_
                rotate_left
                · (intro w hSw; (try dsimp only at hSw); go_simp; try with_reducible rfl)
                try simp only [Act.put, List.getElem_toArray, List.getElem_cons_zero, List.getElem_cons_succ, List.setIfInBounds_toArray, List.set_cons_zero, List.set_cons_succ]
                refine wpAnyK_take (i := 6) (v := ?_) rfl (by kernel_rfl) (fun _ _ _ h => h) (Or.inl ⟨by rfl, ?_⟩) (by assumption) ?_
                rotate_left
                · (intro w hSw; (try dsimp only at hSw); go_simp; try with_reducible rfl)
                try simp only [Act.put, List.getElem_toArray, List.getElem_cons_zero, List.getElem_cons_succ, List.setIfInBounds_toArray, List.set_cons_zero, List.set_cons_succ]
                refine wpAnyK_take (i := 7) (v := ?_) rfl (by kernel_rfl) (fun _ _ _ h => h) (Or.inl ⟨by rfl, ?_⟩) (by assumption) ?_
                rotate_left
                · (intro w hSw; (try dsimp only at hSw); go_simp; try with_reducible rfl)
                try simp only [Act.put, List.getElem_toArray, List.getElem_cons_zero, List.getElem_cons_succ, List.setIfInBounds_toArray, List.set_cons_zero, List.set_cons_succ]
                refine wpAnyK_take (i := 9) (v := ?_) rfl (by kernel_rfl) (fun _ _ _ h => h) (Or.inl ⟨by rfl, ?_⟩) (by assumption) ?_
                rotate_left
                · (intro w hSw; (try dsimp only at hSw); go_simp; try with_reducible rfl)
                try simp only [Act.put, List.getElem_toArray, List.getElem_cons_zero, List.getElem_cons_succ, List.setIfInBounds_toArray, List.set_cons_zero, List.set_cons_succ]
                refine wpAnyK_take (i := 10) (v := ?_) rfl (by kernel_rfl) (fun _ _ _ h => h) (Or.inl ⟨by rfl, ?_⟩) (by assumption) ?_
                rotate_left
                · (intro w hSw; (try dsimp only at hSw); go_simp; try with_reducible rfl)
                try simp only [Act.put, List.getElem_toArray, List.getElem_cons_zero, List.getElem_cons_succ, List.setIfInBounds_toArray, List.set_cons_zero, List.set_cons_succ]
                refine wpAnyK_take (i := 11) (v := ?_) rfl (by kernel_rfl) (fun _ _ _ h => h) (Or.inl ⟨by rfl, ?_⟩) (by assumption) ?_
                rotate_left
                · (intro w hSw; (try dsimp only at hSw); go_simp; try with_reducible rfl)
                try simp only [Act.put, List.getElem_toArray, List.getElem_cons_zero, List.getElem_cons_succ, List.setIfInBounds_toArray, List.set_cons_zero, List.set_cons_succ]
                refine wpAnyK_take (i := 13) (v := ?_) rfl (by kernel_rfl) (fun _ _ _ h => h) (Or.inl ⟨by rfl, ?_⟩) (by assumption) ?_
                rotate_left
                · (intro w hSw; (try dsimp only at hSw); go_simp; try with_reducible rfl)
                try simp only [Act.put, List.getElem_toArray, List.getElem_cons_zero, List.getElem_cons_succ, List.setIfInBounds_toArray, List.set_cons_zero, List.set_cons_succ]
                refine wpAnyK_step (i := 8) rfl (by kernel_rfl) (fun K hK => ?_)
                go_simp
                refine (rat_at a k cap zs P inc G.out _ (j + q) (by omega) (by omega) v1 HV1.out _ O1.out.2.2.2.out.rf).mono ?_
                rintro e w4 ⟨rfl, hb4⟩
                have O2 := Lib.hid (ls_s (O1.out.2.2.2.out.under hb4))
                refine hK.out _ _ O2.out (fun hHeld2 => ?_)
                clear hK K hHeld hb4
                try simp only [Act.put, List.getElem_toArray, List.getElem_cons_zero, List.getElem_cons_succ, List.setIfInBounds_toArray, List.set_cons_zero, List.set_cons_succ]
                refine wpAnyK_step (i := 12) rfl (by kernel_rfl) (fun K hK => ?_)
                go_simp
                refine (rat_at a k cap zs P inc G.out _ j rfl (by omega) v2 HV2.out _ O2.out.2.2.2.out.rf).mono ?_
                rintro e w5 ⟨rfl, hb5⟩
                have O3 := Lib.hid (ls_s (O2.out.2.2.2.out.under hb5))
                refine hK.out _ _ O3.out (fun hHeld3 => ?_)
                clear hK K hHeld2 hb5
                try simp only [Act.put, List.getElem_toArray, List.getElem_cons_zero, List.getElem_cons_succ, List.setIfInBounds_toArray, List.set_cons_zero, List.set_cons_succ]
                refine wpAnyK_take (i := 14) (v := ?_) rfl (by kernel_rfl) (fun _ _ _ h => h) (Or.inl ⟨by rfl, ?_⟩) (by assumption) ?_
                rotate_left
                · (intro w hSw; (try dsimp only at hSw); go_simp; try with_reducible rfl)
                try simp only [Act.put, List.getElem_toArray, List.getElem_cons_zero, List.getElem_cons_succ, List.setIfInBounds_toArray, List.set_cons_zero, List.set_cons_succ]
                refine wpAnyK_take (i := 15) (v := ?_) rfl (by kernel_rfl) (fun _ _ _ h => h) (Or.inl ⟨by rfl, ?_⟩) (by assumption) ?_
                rotate_left
                · (intro w hSw; (try dsimp only at hSw); go_simp; try with_reducible rfl)
                try simp only [Act.put, List.getElem_toArray, List.getElem_cons_zero, List.getElem_cons_succ, List.setIfInBounds_toArray, List.set_cons_zero, List.set_cons_succ]
                refine wpAnyK_done (by kernel_rfl) ?_
                simp only [List.drop_succ_cons, List.drop_zero]
                clear hHeld3
                go_wp2_with fail
                go_meet
                exact ⟨v1 == v2 + d, rfl, ⟨fun h => ⟨u3, by rw [HV.out.1, HV.out.2]; exact beq_iff_eq.1 h⟩, fun h => by rw [HV.out.1, HV.out.2] at h; exact beq_iff_eq.2 h.2⟩, O3.out.2.2.2⟩
            case rest =>
              obtain ⟨bt, rfl, hbt, L4⟩ := hcut
              obtain ⟨w4, rfl⟩ : ∃ u : World, u = wc := ⟨_, rfl⟩
              have HBT := Lib.hid hbt
              clear hbt L3
              cases bt with
              | true =>
                have ht0 := (HBT.out.1 rfl).1
                obtain ⟨j, rfl⟩ : ∃ j, t = j + 1 := ⟨t - 1, by omega⟩
                have HT := Lib.hid (HBT.out.1 rfl).2
                clear ht0
                go_wp2_with fail
                go_roundw
                case rel =>
                  refine ⟨j, by go_num, by omega, Lib.hid fun u h1 h2 => ?_, L4⟩
                  by_cases he : u = j
                  · subst he; have h3 := HT.out; rw [Nat.add_sub_cancel] at h3; omega
                  · exact hall2.out u (by omega) h2
                case measure => simp [intOf]
              | false =>
                have hend : t = 0 ∨ ¬ f (t - 1 + q) - f (t - 1) = d := by
                  by_cases h0 : t = 0
                  · exact .inl h0
                  · exact .inr fun h3 => absurd (HBT.out.2 ⟨by omega, by omega⟩) (by decide)
                have HNO : Hid (NormOf f t q d) := Lib.hid (by
                  have h4 := normOf_found (r := q) HPER.out hP1 hq1 hq2 (fun _ => HG.out) (perOk_least hP1 HPER.out hall.out) ht (fun u h1 h2 => by rw [HD.out]; exact hall2.out u h1 h2) (by rw [HD.out]; exact hend)
                  rwa [HD.out] at h4)
                obtain ⟨m, hm⟩ : ∃ m, t + q = m := ⟨_, rfl⟩
                have hmk : m ≤ k := by have := HSN.out; omega
                have hmI : (t : Int) + (q : Int) = (m : Int) := by omega
                have hmw : IntKind.i64.wrap ((t : Int) + (q : Int)) = (m : Int) := by rw [hmI]; exact IntWalk.i64_in _ ⟨by omega, by omega⟩
                have HMM := Lib.hid hm
                clear hend hm
                go_wp2_with fail
                have hO : w.heap.size + 1 < w4.heap.size := L4.out.br.lt
                have L5 := Lib.hid (L4.out.under ((Below.refl _ _).alloc (Nat.le_refl _) (.cells #[.slice none 0 0, .int .i64 q, .int .i64 d] 24)))
                have B5 := Lib.hid (Cur3.new w4 (.slice none 0 0) (.int .i64 q) (.int .i64 d) 24)
                obtain ⟨O, hOe⟩ : ∃ O, w4.heap.size = O := ⟨_, rfl⟩
                generalize w4.alloc (.cells #[.slice none 0 0, .int .i64 q, .int .i64 d] 24) = w5 at L5 B5 ⊢
                rw [hOe] at hO B5 ⊢
                clear hOe L4 hall2
                have hwO1 : ¬ w.heap.size = O := by omega
                have hwO2 : ¬ w.heap.size + 1 = O := by omega
                go_loopw [8] (fun s8 wx => ∃ (k2 : Nat) (sv : Value), s8 = .int .i64 k2 ∧ k2 ≤ m ∧ Hid (Ls w a k cap P inc zs wx) ∧ Hid (Cur3 wx O sv (.int .i64 q) (.int .i64 d)) ∧ Hid (wx.ownsRow (O + 1) 3 1 sv k2 ((firsts f k2).map (Value.int .i64)))) (fun s8 _ => m - (intOf s8).toNat)
                case atStart => exact ⟨0, .slice none 0 0, rfl, Nat.zero_le _, L5, B5, World.ownsRow_nil _ _ _ _⟩
                case round =>
                  obtain ⟨k2, sv, rfl, hk2, L6, B6, O6⟩ := hrel
                  obtain ⟨w6, rfl⟩ : ∃ u : World, u = wr := ⟨_, rfl⟩
                  by_cases hlt : k2 < m
                  · have hlt' : (k2 : Int) < (m : Int) := by omega
                    obtain ⟨v, hv⟩ : ∃ v, f k2 = v := ⟨_, rfl⟩
                    have e1 := HF.out
                    have HV1 : Hid (atC zs P inc k2 = v) := Lib.hid (by rw [e1]; exact hv)
                    have HV2 := Lib.hid hv
                    clear e1 hv
                    go_wp2_with fail
                    refine wp_region_keeps (fun u => u.cell? ⟨O, 0, none⟩ = some sv ∧ LsS w a k cap P inc zs u) 6 3 (by kernel_rfl) (by kernel_rfl) ⟨B6.out.c0, ls_s (L6.out.under (Below.refl _ _).drew)⟩ (fun hHeld => ?_)
                    refine wpAnyK_take (i := 0) (v := ?_) rfl (by kernel_rfl) (fun _ _ _ h => h) (Or.inl ⟨by rfl, ?_⟩) (by assumption) ?_
                    rotate_left
                    · (intro w hSw; (try dsimp only at hSw); go_simp; try with_reducible rfl)
                    try simp only [Act.put, List.getElem_toArray, List.getElem_cons_zero, List.getElem_cons_succ, List.setIfInBounds_toArray, List.set_cons_zero, List.set_cons_succ]
                    refine wpAnyK_take (i := 1) (v := ?_) rfl (by kernel_rfl) (fun _ _ _ h => h) (Or.inl ⟨by rfl, ?_⟩) (by assumption) ?_
                    rotate_left
                    · (intro w hSw; (try dsimp only at hSw); go_simp; try with_reducible rfl)
                    try simp only [Act.put, List.getElem_toArray, List.getElem_cons_zero, List.getElem_cons_succ, List.setIfInBounds_toArray, List.set_cons_zero, List.set_cons_succ]
                    refine wpAnyK_take (i := 2) (v := ?_) rfl (by kernel_rfl) (fun _ _ _ h => h) (Or.inl ⟨by rfl, ?_⟩) (by assumption) ?_
                    rotate_left
                    · (intro w hSw; (try dsimp only at hSw); go_simp; try with_reducible rfl)
                    try simp only [Act.put, List.getElem_toArray, List.getElem_cons_zero, List.getElem_cons_succ, List.setIfInBounds_toArray, List.set_cons_zero, List.set_cons_succ]
                    refine wpAnyK_take (i := 3) (v := ?_) rfl (by kernel_rfl) (fun _ _ _ h => h) (Or.inl ⟨by rfl, ?_⟩) (by assumption) ?_
                    rotate_left
                    · (intro w hSw; (try dsimp only at hSw); go_simp; try with_reducible rfl)
                    try simp only [Act.put, List.getElem_toArray, List.getElem_cons_zero, List.getElem_cons_succ, List.setIfInBounds_toArray, List.set_cons_zero, List.set_cons_succ]
                    refine wpAnyK_step (i := 4) rfl (by kernel_rfl) (fun K hK => ?_)
                    go_simp
                    refine (rat_at a k cap zs P inc G.out _ k2 rfl (by omega) v HV1.out _ (L6.out.under (Below.refl _ _).drew).rf).mono ?_
                    rintro e w7 ⟨rfl, hb7⟩
                    have hb67 : Below w6.heap.size w6 w7 := ((Below.refl _ _).drew : Below w6.heap.size w6 w6.drew).trans hb7
                    have L7 := Lib.hid (L6.out.under hb67)
                    have B7 := Lib.hid (B6.out.below hb67)
                    have O7 : Hid (w7.ownsRow (O + 1) 3 1 sv k2 ((firsts f k2).map (Value.int .i64))) := Lib.hid (owns_apart O6.out (below_apart (b := w.heap.size) hb67) (by omega))
                    refine hK.out _ _ ⟨B7.out.c0, ls_s L7.out⟩ (fun hHeld2 => ?_)
                    clear hK K hHeld hb7 hb67
                    try simp only [Act.put, List.getElem_toArray, List.getElem_cons_zero, List.getElem_cons_succ, List.setIfInBounds_toArray, List.set_cons_zero, List.set_cons_succ]
                    refine wpAnyK_step (i := 5) rfl (by kernel_rfl) (fun K hK => ?_)
                    go_simp
                    have L8 := Lib.hid (L7.out.under ((Below.refl _ _).alloc (Nat.le_refl _) (.cells #[.int .i64 v] 3)))
                    have B8 := Lib.hid (B7.out.alloc (.cells #[.int .i64 v] 3))
                    refine hK.out _ _ ⟨B8.out.c0, ls_s L8.out⟩ (fun hHeld3 => ?_)
                    clear hK K hHeld2
                    try simp only [Act.put, List.getElem_toArray, List.getElem_cons_zero, List.getElem_cons_succ, List.setIfInBounds_toArray, List.set_cons_zero, List.set_cons_succ]
                    refine wpAnyK_done (by kernel_rfl) ?_
                    simp only [List.drop_succ_cons, List.drop_zero]
                    clear hHeld3
                    have O8 := Lib.hid (O7.out.alloc (.cells #[.int .i64 v] 3))
                    have N8 : Hid (∀ j u, [Value.int .i64 v][j]? = some u → (w7.alloc (.cells #[.int .i64 v] 3)).cell? ((⟨w7.heap.size, 0, none⟩ : Addr).add j) = some u) := Lib.hid (World.news_of_block (cs := #[.int .i64 v]) (t := 3) (fr := (0, 0)) (heap_alloc_new w7 _))
                    generalize w7.alloc (.cells #[.int .i64 v] 3) = w8 at L8 B8 O8 N8 ⊢
                    go_wp2_with (at_builtin; refine wpList_append_own _ rfl _ _ 22 rfl (O + 1) 3 i0 (.int .i64 0) 1 8 Tryz.underlying22 hi hz0 hz1 hz2 rfl (by decide) _ _ _ rfl O8.out ⟨w7.heap.size, 0, none⟩ 1 1 [.int .i64 v] rfl rfl N8.out ?c2 ?c3 ?c4 ?c5 ?_)
                    case c2 => intro u hu; simp at hu; subst hu; rfl
                    case c3 => unfold maxLen; omega
                    case c4 => omega
                    case c5 => have := B8.out.lt; omega
                    intro v' w9 hown' hgrow _
                    obtain ⟨g9, cap9, rfl, hg9, hg9'⟩ := hown'.form (Nat.succ_pos _)
                    have hrow : ∀ j, sv.ownBlock = some j → O + 1 ≤ j := fun j hj => (O8.out.lt j hj).1
                    have L9 := Lib.hid (L8.out.grow H0.out hgrow (fun j hj => by have := hrow j hj; omega) hO (.slice (some ⟨g9, 0, none⟩) (k2 + 1) cap9))
                    have B9 := Lib.hid (B8.out.grown hgrow (fun j hj => by have := hrow j hj; omega))
                    have B10 := Lib.hid (B9.out.set0 (.slice (some ⟨g9, 0, none⟩) (k2 + 1) cap9))
                    have O10 : Hid ((w9.setCell ⟨O, 0, none⟩ (.slice (some ⟨g9, 0, none⟩) (k2 + 1) cap9)).ownsRow (O + 1) 3 1 (.slice (some ⟨g9, 0, none⟩) (k2 + 1) cap9) (k2 + 1) ((firsts f (k2 + 1)).map (Value.int .i64))) := Lib.hid (by
                      rw [firsts_succ, List.map_append, HV2.out]
                      exact owns_set hown' (p := ⟨O, 0, none⟩) (Nat.lt_succ_self _) _)
                    clear hown' hgrow hrow
                    obtain ⟨d0, d1, d2, e0, e1, e2⟩ := B9.out
                    go_wp2_with fail
                    go_roundw
                    case rel => exact ⟨k2 + 1, _, by go_num, by omega, L9, B10, O10⟩
                    case measure => simp [intOf]; omega
                  · obtain rfl : k2 = m := by omega
                    have hm0 : 0 < k2 := by have := HMM.out; omega
                    obtain ⟨g9, cap9, rfl, hg9, hg9'⟩ := O6.out.form hm0
                    obtain ⟨a9, c9, hv9, R9, X9⟩ := rowZ_of_owns O6.out (by omega) (fun i hi => by rw [firsts_length] at hi; rw [firsts_getD _ _ _ hi]; have := HBD.out i; exact ⟨by omega, by omega⟩)
                    obtain ⟨rfl, rfl⟩ : some ⟨g9, 0, none⟩ = a9 ∧ cap9 = c9 := by cases hv9; exact ⟨rfl, rfl⟩
                    have HP := Lib.hid (norm_post (b := w.heap.size + 1) (w := w) (zs := zs) (p := P) (inc := inc) L6.out.bl (Nat.le_succ _) R9 (fun y hy => by cases hy; show w.heap.size + 1 < g9; omega) q d (.inl ⟨HFI.out, t, by rw [HF.out]; exact HNO.out, by rw [HMM.out, ← HF.out]; exact firsts_take (by rw [HL.out]; exact hmk), by rw [HMM.out, HL.out]; exact hmk, hq2⟩))
                    obtain ⟨d0, d1, d2, e0, e1, e2⟩ := B6.out
                    obtain ⟨o0, o1, o2, p0, p1, p2⟩ := L6.out.br
                    clear hv9 R9 X9
                    go_wp2_with fail
                    exact bodyPost_ret (v := curV (some ⟨g9, 0, none⟩) k2 cap9 q d) (by simp [results, Tryz.results37, go_sem, o0, o1, o2]) rfl HP.out

end Go.Proofs.YtkienpbmoilheaaGreat

namespace Go.Proofs.YtkienpbmoilheaaGreat
open Go.RowKit
set_option linter.unusedSimpArgs false

set_option maxRecDepth 100000 in
set_option maxHeartbeats 1000000 in
theorem rleast_inf (a : Option Addr) (n cap : Nat) (zs : List Int) (P : Nat) (inc : Int) (g : Good zs P inc) (i : Nat) (hi' : i < zs.length) (hz : zs.getD i 0 = infV) (hj : ∀ j, j < i → ¬ zs.getD j 0 = infV) (w : World) (h : RowZ w a n cap zs) :
    Calls Tryz.prog 37 #[curV a n cap P inc] w (GivesNorm zs P inc w) := by
  obtain ⟨i0, hi, hz0, hz1, hz2⟩ := info_parts info_int
  have hB : Below w.heap.size w ((w.alloc (.cells #[.slice a n cap, .int .i64 P, .int .i64 inc] 24)).alloc (.cells #[.slice none 0 0, .int .i64 0, .int .i64 0] 24)) := ((Below.refl _ _).alloc (Nat.le_refl _) _).alloc (by simp) _
  have L0 := Lib.hid (show Ls w a n cap P inc zs ((w.alloc (.cells #[.slice a n cap, .int .i64 P, .int .i64 inc] 24)).alloc (.cells #[.slice none 0 0, .int .i64 0, .int .i64 0] 24)) from
    ⟨hB, (Cur3.new w _ _ _ _).alloc _, h.under hB, Cur3.new2 w _ _ _ _ _⟩)
  have G := Lib.hid g
  have HL := Lib.hid h.len
  have H0 := Lib.hid h
  have hn4 : n ≤ 400 := by have := g.few; have := h.len; omega
  have hin : i < n := by have := h.len; omega
  have HZ := Lib.hid (And.intro hz hj)
  have hcm := h.cm
  have hle := h.le
  have HBD := Lib.hid h.bd
  clear h hB g hz hj hi'
  go_enter Tryz.func37, Tryz.ntmps37
  go_wp2_with fail
  generalize (w.alloc (.cells #[.slice a n cap, .int .i64 P, .int .i64 inc] 24)).alloc (.cells #[.slice none 0 0, .int .i64 0, .int .i64 0] 24) = w0 at L0 ⊢
  go_loopw [3] (fun s3 wx => ∃ k : Nat, s3 = .int .i64 k ∧ k ≤ i ∧ Hid (Ls w a n cap P inc zs wx)) (fun s3 _ => i - (intOf s3).toNat)
  case atStart => exact ⟨0, rfl, Nat.zero_le _, L0⟩
  case round =>
    clear L0
    obtain ⟨k, rfl, hk, L0⟩ := hrel
    obtain ⟨w0, rfl⟩ : ∃ u : World, u = wr := ⟨_, rfl⟩
    obtain ⟨c0, c1, c2, f0, f1, f2⟩ := L0.out.bf
    have hkn : (k : Int) < (n : Int) := by omega
    obtain ⟨x, rfl, ck⟩ := L0.out.rf.cell k (by omega)
    obtain ⟨v, hv⟩ : ∃ v, zs.getD k 0 = v := ⟨_, rfl⟩
    rw [hv] at ck
    by_cases hlt : k < i
    · have tv : (v == 4611686018427387904) = false := by have := HZ.out.2 k hlt; rw [hv] at this; simpa using this
      clear hv
      go_wp2_with fail
      go_roundw
      case rel => exact ⟨k + 1, by go_num, by omega, L0⟩
      case measure => simp [intOf]; omega
    · obtain rfl : k = i := by omega
      obtain rfl : v = 4611686018427387904 := by rw [← hv]; exact HZ.out.1
      have hcap : (k : Int) + 1 ≤ (cap : Int) := by omega
      have hcap0 : (0 : Int) ≤ (k : Int) + 1 := by omega
      have R1 := Lib.hid ((L0.out.rf.take (k + 1) (by omega)).alloc (.cells #[] 3))
      have hbase : w.heap.size + 1 + 1 ≤ w0.heap.size := by have := L0.out.br.lt; omega
      have hl0 := L0.out.bf.lt
      have hl1 : ¬ w.heap.size = w0.heap.size := by omega
      have hl2 : ¬ w0.heap.size = w.heap.size := by omega
      have hl3 : w.heap.size < w0.heap.size + 1 := by omega
      clear hv
      go_wp2_with (at_builtin; refine wpList_append_own _ rfl _ _ 22 rfl (w.heap.size + 1 + 1) 3 i0 (.int .i64 0) 1 8 Tryz.underlying22 hi hz0 hz1 hz2 rfl (by decide) _ _ _ rfl (World.ownsRow_made w0 #[] 0 hbase (Nat.zero_le _) rfl) x (k + 1) cap ((zs.take (k + 1)).map (Value.int .i64)) rfl ?cl ?c1 ?c2 ?c3 ?c4 ?c5 ?_)
      case cl => rw [List.length_map, Nat.mul_one]; exact R1.out.len
      case c1 =>
        intro j u hj
        rw [List.getElem?_map, Option.map_eq_some_iff] at hj
        obtain ⟨z, hz, rfl⟩ := hj
        have hjn : j < (zs.take (k + 1)).length := (List.getElem?_eq_some_iff.1 hz).1
        obtain ⟨x', hx, hc⟩ := R1.out.cell j (by rw [R1.out.len] at hjn; exact hjn)
        obtain rfl : x = x' := Option.some.inj hx
        rw [show (zs.take (k + 1)).getD j 0 = z by simp [List.getD, hz]] at hc
        exact hc
      case c2 => intro u hu; simp only [List.mem_map] at hu; obtain ⟨z, _, rfl⟩ := hu; rfl
      case c3 => unfold maxLen; omega
      case c4 => omega
      case c5 => simp; omega
      intro v' w1 hown' hgrow _
      have hb1 : Below w.heap.size w w1 := (L0.out.bl.alloc L0.out.bl.size _).grown hgrow (by have := L0.out.bl.size; simp; omega) (fun j hj => by cases hj; show w.heap.size ≤ w0.heap.size; omega)
      have K1 := Lib.hid ((L0.out.br.alloc (.cells #[] 3)).grown hgrow (fun j hj => by cases hj; exact L0.out.br.lt))
      have hown2 : w1.ownsRow (w.heap.size + 1 + 1) 3 1 v' (k + 1) ((zs.take (k + 1)).map (Value.int .i64)) := by simpa using hown'
      obtain ⟨a9, c9, hv9, R9, X9⟩ := rowZ_of_owns hown2 (by omega) (fun j hj => by
        rw [List.length_take] at hj
        rw [getD_take (by omega)]
        exact HBD.out j (by have := HL.out; omega))
      subst hv9
      have HP := Lib.hid (norm_post (b := w.heap.size + 1) (w := w) (zs := zs) (p := P) (inc := inc) hb1 (Nat.le_succ _) R9 (fun y hy => by have := X9 y hy; omega) 1 0 (.inr ⟨k, by have := HL.out; omega, HZ.out.1, HZ.out.2, rfl, rfl, rfl⟩))
      obtain ⟨o0, o1, o2, p0, p1, p2⟩ := K1.out
      clear hown' hown2 hgrow R9 X9 hb1 c0 c1 c2 f0 f1 f2
      go_wp2_with fail
      exact bodyPost_ret (v := curV a9 (k + 1) c9 1 0) (by simp [results, Tryz.results37, go_sem, o0, o1, o2]) rfl HP.out

theorem rleast_any (a : Option Addr) (n cap : Nat) (zs : List Int) (p : Nat) (inc : Int) (g : Good zs p inc) (w : World) (h : RowZ w a n cap zs) :
    Calls Tryz.prog 37 #[curV a n cap p inc] w (GivesNorm zs p inc w) := by
  by_cases hf : zs.getD (zs.length - 1) 0 = infV
  · have h1 := g.p1
    have h3 := g.p3
    obtain ⟨r, hr1, hr2, hr3, hr4⟩ := leastp_ex (fun q => zs.getD (q - 1) 0 = infV) zs.length (by omega) hf
    exact rleast_inf a n cap zs p inc g (r - 1) (by omega) hr3 (fun j hj hx => hr4 (j + 1) (by omega) (by omega) (by rw [Nat.add_sub_cancel]; exact hx)) w h
  · exact rleast_fin a n cap zs p inc g hf w h

set_option maxHeartbeats 800000 in
theorem rnormal_bad (a : Option Addr) (n cap : Nat) (zs : List Int) (p inc : Int) (hp : In64 p) (hi : In64 inc) (hb : okC zs p inc = false) (w : World) (h : RowZ w a n cap zs) :
    Calls Tryz.prog 98 #[curV a n cap p inc] w (Says (.tuple #[curV none 0 0 0 0, .int .i64 1]) w) := by
  have hB : Below w.heap.size w ((w.alloc (.cells #[.slice a n cap, .int .i64 p, .int .i64 inc] 24)).alloc (.cells #[.slice none 0 0, .int .i64 0, .int .i64 0] 24)) :=
    ((Below.refl _ _).alloc (Nat.le_refl _) _).alloc (by simp) _
  have HBl := Lib.hid hB
  have H := Lib.hid (h.under hB)
  have HB := Lib.hid hb
  clear h hb hB
  go_enter Tryz.func98, Tryz.ntmps98
  go_wp2_with fail
  refine (rvalid_any a n cap zs p inc hp hi false HB.out _ H.out).mono ?_
  rintro e w1 ⟨rfl, hb⟩
  obtain ⟨c0, c1, c2, f0, f1, f2⟩ := (Cur3.new2 w (.slice none 0 0) (.int .i64 0) (.int .i64 0) 24 (.cells #[.slice a n cap, .int .i64 p, .int .i64 inc] 24)).below hb
  have HB1 := Lib.hid (below_set3 (b := w.heap.size + 1) (HBl.out.trans (hb.mono HBl.out.size)) (Nat.le_succ _) (.slice none 0 0) (.int .i64 0) (.int .i64 0))
  clear hb
  go_wp2_with fail
  exact bodyPost_ret (v := .tuple #[curV none 0 0 0 0, .int .i64 1]) (by simp [results, Tryz.results98, go_sem, c0, c1, c2]) rfl ⟨rfl, HB1.out⟩

set_option maxHeartbeats 800000 in
theorem rnormal_ok (a : Option Addr) (n cap : Nat) (zs : List Int) (p : Nat) (inc : Int) (g : Good zs p inc) (w : World) (h : RowZ w a n cap zs) :
    Calls Tryz.prog 98 #[curV a n cap p inc] w (GivesNorm2 zs p inc w) := by
  have hB : Below w.heap.size w ((w.alloc (.cells #[.slice a n cap, .int .i64 p, .int .i64 inc] 24)).alloc (.cells #[.slice none 0 0, .int .i64 0, .int .i64 0] 24)) :=
    ((Below.refl _ _).alloc (Nat.le_refl _) _).alloc (by simp) _
  have HBl := Lib.hid hB
  have H := Lib.hid (h.under hB)
  have HB := Lib.hid ((okC_iff zs p inc).2 g)
  have G := Lib.hid g
  have a1 := g.p2; have a2 := g.i0; have a3 := g.i1
  clear h hB g
  go_enter Tryz.func98, Tryz.ntmps98
  go_wp2_with fail
  refine (rvalid_any a n cap zs p inc ⟨by omega, by omega⟩ ⟨by omega, by omega⟩ true HB.out _ H.out).mono ?_
  rintro e w1 ⟨rfl, hb⟩
  have KF := Lib.hid ((Cur3.new w (.slice a n cap) (.int .i64 p) (.int .i64 inc) 24).below (((Below.refl _ _).alloc (Nat.le_refl _) (.cells #[.slice none 0 0, .int .i64 0, .int .i64 0] 24)).trans (hb.mono (by simp))))
  have KR := Lib.hid ((Cur3.new2 w (.slice none 0 0) (.int .i64 0) (.int .i64 0) 24 (.cells #[.slice a n cap, .int .i64 p, .int .i64 inc] 24)).below hb)
  have H1 := Lib.hid (H.out.under hb)
  have HB1 := Lib.hid (HBl.out.trans (hb.mono HBl.out.size))
  clear hb
  obtain ⟨c0, c1, c2, f0, f1, f2⟩ := KF.out
  go_wp2_with fail
  refine (rleast_any a n cap zs p inc G.out _ H1.out).mono ?_
  rintro e w2 ⟨a', n', cap', zs', p', inc', rfl, hb2, hr2, hn2, hx2⟩
  clear c0 c1 c2 f0 f1 f2
  obtain ⟨c0, c1, c2, f0, f1, f2⟩ := KR.out.below hb2
  have hlt3 := KR.out.lt
  have HP := Lib.hid (norm_post2 (b := w.heap.size + 1) (HB1.out.trans (hb2.mono HB1.out.size)) (Nat.le_succ _) hr2 (fun y hy => by have := hx2 y hy; omega) p' inc' hn2)
  clear hb2 hr2 hn2 hx2 hlt3
  go_wp2_with fail
  exact bodyPost_ret (v := .tuple #[curV a' n' cap' p' inc', .int .i64 0]) (by simp [results, Tryz.results98, go_sem, c0, c1, c2]) rfl HP.out

end Go.Proofs.YtkienpbmoilheaaGreat

namespace Go.Proofs.YtkienpbmoilheaaGreat
open Go.RowKit
set_option linter.unusedSimpArgs false

theorem lt5 {a b : Nat} (h : a < b) : a < b + 1 ∧ ¬ a = b ∧ ¬ b = a ∧ a < b := ⟨by omega, by omega, by omega, h⟩



end Go.Proofs.YtkienpbmoilheaaGreat

namespace Go.Proofs.YtkienpbmoilheaaGreat
open Go.RowKit
set_option linter.unusedSimpArgs false

set_option maxHeartbeats 800000 in
theorem rfinite_any (a : Option Addr) (n cap : Nat) (zs : List Int) (p inc : Int) (hp : In64 p) (hi : In64 inc) (b : Bool) (hb : finB zs p inc = b) (w : World) (h : RowZ w a n cap zs) :
    Calls Tryz.prog 38 #[curV a n cap p inc] w (Says (.bool b) w) := by
  have hB : Below w.heap.size w (w.alloc (.cells #[.slice a n cap, .int .i64 p, .int .i64 inc] 24)) := (Below.refl _ _).alloc (Nat.le_refl _) _
  have HBl := Lib.hid hB
  have H := Lib.hid (h.under hB)
  have HL := Lib.hid h.len
  have KF := Lib.hid (Cur3.new w (.slice a n cap) (.int .i64 p) (.int .i64 inc) 24)
  cases hok : okC zs p inc with
  | false =>
    obtain rfl : b = false := hb.symm.trans (finB_bad hok)
    have HO := Lib.hid hok
    clear h hB hb hok
    go_enter Tryz.func38, Tryz.ntmps38
    go_wp2_with fail
    refine (rvalid_any a n cap zs p inc hp hi false HO.out _ H.out).mono ?_
    rintro e w1 ⟨rfl, hb⟩
    go_wp2_with fail
    go_ret
    exact ⟨rfl, HBl.out.trans (hb.mono HBl.out.size)⟩
  | true =>
    obtain ⟨q, hq, g⟩ := okC_pos hok
    have hn1 : 1 ≤ n := by have := g.p1; have := g.p3; have := HL.out; omega
    have hcm := h.sm
    obtain ⟨j, hj⟩ : ∃ j, n = j + 1 := ⟨n - 1, by omega⟩
    obtain ⟨l, hl⟩ : ∃ l, zs.getD j 0 = l := ⟨_, rfl⟩
    have hbl : b = !decide (l = infV) := by rw [← hb, ← hl]; unfold finB; rw [hok, HL.out, show n - 1 = j by omega]; rfl
    have HO := Lib.hid hok
    have q1 : (n : Int) - 1 = (j : Int) := by omega
    have q2 : (j : Int) < (n : Int) := by omega
    have HJ := Lib.hid (And.intro hj hl)
    clear h hB hb hok hq g hj hl
    by_cases hf : l = infV
    · obtain rfl : b = false := by rw [hbl, decide_eq_true hf]; rfl
      have ht : (l != 4611686018427387904) = false := by simpa using hf
      clear hbl hf
      go_enter Tryz.func38, Tryz.ntmps38
      go_wp2_with fail
      refine (rvalid_any a n cap zs p inc hp hi true HO.out _ H.out).mono ?_
      rintro e w1 ⟨rfl, hb⟩
      obtain ⟨c0, c1, c2, f0, f1, f2⟩ := KF.out.below hb
      have HB1 := Lib.hid (HBl.out.trans (hb.mono HBl.out.size))
      obtain ⟨x, rfl, cl⟩ := (H.out.under hb).cell j (by omega)
      rw [HJ.out.2] at cl
      clear hb
      go_wp2_with fail
      go_ret
      exact ⟨rfl, HB1.out⟩
    · obtain rfl : b = true := by rw [hbl, decide_eq_false hf]; rfl
      have ht : (l != 4611686018427387904) = true := by simpa using hf
      clear hbl hf
      go_enter Tryz.func38, Tryz.ntmps38
      go_wp2_with fail
      refine (rvalid_any a n cap zs p inc hp hi true HO.out _ H.out).mono ?_
      rintro e w1 ⟨rfl, hb⟩
      obtain ⟨c0, c1, c2, f0, f1, f2⟩ := KF.out.below hb
      have HB1 := Lib.hid (HBl.out.trans (hb.mono HBl.out.size))
      obtain ⟨x, rfl, cl⟩ := (H.out.under hb).cell j (by omega)
      rw [HJ.out.2] at cl
      clear hb
      go_wp2_with fail
      go_ret
      exact ⟨rfl, HB1.out⟩

end Go.Proofs.YtkienpbmoilheaaGreat
