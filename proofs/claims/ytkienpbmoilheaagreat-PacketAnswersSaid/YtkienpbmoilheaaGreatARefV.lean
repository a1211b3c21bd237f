/- Contract of the document's Valid. By the verifier's side. -/
import Derived.Test.YtkienpbmoilheaaGreatACurFCurGCurTNum
import Derived.LoopTactic
namespace Go.Proofs.YtkienpbmoilheaaGreat
open Go.RowKit
set_option linter.unusedSimpArgs false

theorem okC_few {zs : List Int} {p inc : Int} (h : 400 < zs.length ∨ p < 1 ∨ (zs.length : Int) < p ∨ 120 < p) : okC zs p inc = false := by unfold okC; rw [if_pos h]
theorem okC_few' {zs : List Int} {n : Nat} {p inc : Int} (hl : zs.length = n) (h : 400 < n ∨ p < 1 ∨ (n : Int) < p ∨ 120 < p) : okC zs p inc = false := by subst hl; exact okC_few h
theorem okC_inc {zs : List Int} {p inc : Int} (h : inc < 0 ∨ 1073741824 < inc) : okC zs p inc = false := by
  cases e : okC zs p inc with
  | false => rfl
  | true => obtain ⟨q, rfl, g⟩ := okC_pos e; have := g.i0; have := g.i1; omega
theorem okC_val {zs : List Int} {p inc : Int} {i : Nat} (hi : i < zs.length) (h : ¬ zs.getD i 0 = infV) (h2 : zs.getD i 0 < 0 ∨ 1073741824 < zs.getD i 0) : okC zs p inc = false := by
  cases e : okC zs p inc with
  | false => rfl
  | true => obtain ⟨q, rfl, g⟩ := okC_pos e; have := (g.val i hi).resolve_right h; omega
theorem okC_mono {zs : List Int} {p inc : Int} {i : Nat} (hi : i + 1 < zs.length) (h : zs.getD (i + 1) 0 < zs.getD i 0) : okC zs p inc = false := by
  cases e : okC zs p inc with
  | false => rfl
  | true => obtain ⟨q, rfl, g⟩ := okC_pos e; have := g.mono i hi; omega
theorem okC_inf {zs : List Int} {p inc : Int} (h : zs.getD (zs.length - 1) 0 = infV) (h2 : ¬ (p = 1 ∧ inc = 0)) : okC zs p inc = false := by
  cases e : okC zs p inc with
  | false => rfl
  | true => obtain ⟨q, rfl, g⟩ := okC_pos e; have := g.tailI h; exact absurd ⟨by omega, this.2⟩ h2
theorem okC_fin {zs : List Int} {q : Nat} {inc : Int} (h : ¬ zs.getD (zs.length - 1) 0 = infV) (h2 : ¬ zs.getD (zs.length - 1) 0 ≤ zs.getD (zs.length - q) 0 + inc) : okC zs q inc = false := by
  cases e : okC zs q inc with
  | false => rfl
  | true => exact absurd ((okC_iff zs q inc).1 e |>.tailF h) h2

theorem box_below (w : World) (o : Obj) : Below w.heap.size w (w.alloc o) := (Below.refl _ _).alloc (Nat.le_refl _) _

set_option maxRecDepth 100000 in
set_option maxHeartbeats 1200000 in
theorem rvalid_any (a : Option Addr) (n cap : Nat) (zs : List Int) (p inc : Int) (hp : In64 p) (hi : In64 inc) (b : Bool) (hb : okC zs p inc = b) (w : World) (h : RowZ w a n cap zs) :
    Calls Tryz.prog 5 #[curV a n cap p inc] w (Says (.bool b) w) := by
  have H := Lib.hid h
  have HB := Lib.hid hb
  have hn := h.sm
  have HN := Lib.hid h.len
  clear h hb
  by_cases h0 : n < 1
  · have e : b = false := by
      rw [← HB.out]
      by_cases h2 : p < 1
      · exact okC_few' HN.out (.inr (.inl h2))
      · exact okC_few' HN.out (by omega)
    subst e
    go_enter Tryz.func5, Tryz.ntmps5
    go_wp2_with fail
    go_ret
    exact ⟨rfl, box_below _ _⟩
  by_cases h1 : 400 < n
  · have e : b = false := by rw [← HB.out]; exact okC_few' HN.out (.inl h1)
    subst e
    go_enter Tryz.func5, Tryz.ntmps5
    go_wp2_with fail
    go_ret
    exact ⟨rfl, box_below _ _⟩
  by_cases h2 : p < 1
  · have e : b = false := by rw [← HB.out]; exact okC_few' HN.out (.inr (.inl h2))
    subst e
    go_enter Tryz.func5, Tryz.ntmps5
    go_wp2_with fail
    go_ret
    exact ⟨rfl, box_below _ _⟩
  by_cases h3 : 120 < p
  · have e : b = false := by rw [← HB.out]; exact okC_few' HN.out (.inr (.inr (.inr h3)))
    subst e
    go_enter Tryz.func5, Tryz.ntmps5
    go_wp2_with fail
    go_ret
    exact ⟨rfl, box_below _ _⟩
  by_cases h4 : (n : Int) < p
  · have e : b = false := by rw [← HB.out]; exact okC_few' HN.out (.inr (.inr (.inl h4)))
    subst e
    go_enter Tryz.func5, Tryz.ntmps5
    go_wp2_with fail
    go_ret
    exact ⟨rfl, box_below _ _⟩
  by_cases h5 : inc < 0
  · have e : b = false := by rw [← HB.out]; exact okC_inc (.inl h5)
    subst e
    go_enter Tryz.func5, Tryz.ntmps5
    go_wp2_with fail
    go_ret
    exact ⟨rfl, box_below _ _⟩
  by_cases h6 : 1073741824 < inc
  · have e : b = false := by rw [← HB.out]; exact okC_inc (.inr h6)
    subst e
    go_enter Tryz.func5, Tryz.ntmps5
    go_wp2_with fail
    go_ret
    exact ⟨rfl, box_below _ _⟩
  obtain ⟨q, rfl⟩ := Int.eq_ofNat_of_zero_le (show 0 ≤ p by omega)
  have HA : Hid (RowZ (w.alloc (.cells #[.slice a n cap, .int .i64 q, .int .i64 inc] 24)) a n cap zs) := Lib.hid (H.out.alloc _)
  have HBl : Hid (Below w.heap.size w (w.alloc (.cells #[.slice a n cap, .int .i64 q, .int .i64 inc] 24))) := Lib.hid (box_below _ _)
  have KF := Lib.hid (Cur3.new w (.slice a n cap) (.int .i64 q) (.int .i64 inc) 24)
  obtain ⟨x, hxa, _⟩ := H.out.cell 0 (by omega)
  subst hxa
  have q1 : 1 ≤ q := by omega
  have q2 : q ≤ n := by omega
  have q2' : decide (n < q) = false := by simp; omega
  have q3 : q ≤ 120 := by omega
  have q4 : n ≤ 400 := by omega
  have q5 : 1 ≤ n := by omega
  have q6 : 0 ≤ inc := by omega
  have q7 : inc ≤ 1073741824 := by omega
  clear h0 h1 h2 h3 h4 h5 h6
  go_enter Tryz.func5, Tryz.ntmps5
  go_wp2_with fail
  generalize w.alloc (.cells #[.slice (some x) n cap, .int .i64 q, .int .i64 inc] 24) = w0 at HA HBl KF ⊢
  go_loopw [4] (fun s4 wx => ∃ k : Nat, s4 = .int .i64 k ∧ k ≤ n ∧ Hid (∀ i, i < k → (0 ≤ zs.getD i 0 ∧ zs.getD i 0 ≤ 1073741824) ∨ zs.getD i 0 = infV) ∧ Hid (∀ i, i + 1 < k → zs.getD i 0 ≤ zs.getD (i + 1) 0) ∧ Hid (∃ m, wx = w0.drewN m)) (fun s4 _ => n - (intOf s4).toNat)
  case atStart => exact ⟨0, rfl, Nat.zero_le _, fun i hi => absurd hi (Nat.not_lt_zero _), fun i hi => absurd hi (Nat.not_lt_zero _), 0, rfl⟩
  case round =>
    obtain ⟨k, rfl, hk, hval, hmono, hdr⟩ := hrel
    obtain ⟨w1, rfl⟩ : ∃ u : World, u = wr := ⟨_, rfl⟩
    obtain ⟨c0, c1, c2, f0, f1, f2⟩ := KF.out.dr hdr.out
    by_cases hlt : k < n
    · obtain ⟨y, hy, ck⟩ := (HA.out.dr hdr.out).cell k hlt
      obtain rfl : x = y := Option.some.inj hy
      obtain ⟨v, hv⟩ : ∃ v, zs.getD k 0 = v := ⟨_, rfl⟩
      rw [hv] at ck
      have bv := (HA.out.bd k hlt)
      rw [hv] at bv
      have bv1 := bv.1
      have bv2 := bv.2
      have HV := Lib.hid hv
      have g1 : (0 : Int) ≤ (k : Int) := by omega
      have g2 : (k : Int) < (n : Int) := by omega
      clear hv hy bv
      have hcase : (¬ v = infV ∧ v < 0) ∨ (¬ v = infV ∧ ¬ v < 0 ∧ 1073741824 < v) ∨ ((¬ v = infV ∧ ¬ v < 0 ∧ ¬ 1073741824 < v) ∨ v = infV) := by omega
      rcases hcase with ⟨e1, e2⟩ | ⟨e1, e2, e3⟩ | hok
      · have t1 : (v != 4611686018427387904) = true := by simpa using e1
        have t2 : decide (v < 0) = true := by simpa using e2
        have e : b = false := by rw [← HB.out]; exact okC_val (i := k) (by rw [HN.out]; exact hlt) (by rw [HV.out]; exact e1) (by rw [HV.out]; exact .inl e2)
        subst e
        clear e1
        go_wp2_with fail
        go_quiet (fail)
        go_wp2_with fail
        go_ret
        exact ⟨rfl, (below_dr HBl.out hdr.out).drewN _⟩
      · have t1 : (v != 4611686018427387904) = true := by simpa using e1
        have t2 : decide (v < 0) = false := by simpa using e2
        have t3 : decide (1073741824 < v) = true := by simpa using e3
        have e : b = false := by rw [← HB.out]; exact okC_val (i := k) (by rw [HN.out]; exact hlt) (by rw [HV.out]; exact e1) (by rw [HV.out]; exact .inr e3)
        subst e
        clear e1
        go_wp2_with fail
        go_quiet (fail)
        go_wp2_with fail
        go_ret
        exact ⟨rfl, (below_dr HBl.out hdr.out).drewN _⟩
      · have HV2 : Hid ((0 ≤ v ∧ v ≤ 1073741824) ∨ v = infV) := Lib.hid (by omega)
        have t123 : ((v != 4611686018427387904) = true ∧ decide (v < 0) = false ∧ decide (1073741824 < v) = false) ∨ (v != 4611686018427387904) = false := by
          rcases hok with ⟨e1, e2, e3⟩ | e
          · exact .inl ⟨by simpa using e1, by simpa using e2, by simpa using e3⟩
          · exact .inr (by simpa using e)
        have hval2 : Hid (∀ i, i < k + 1 → (0 ≤ zs.getD i 0 ∧ zs.getD i 0 ≤ 1073741824) ∨ zs.getD i 0 = infV) := Lib.hid fun i hi => by
          by_cases he : i = k
          · subst he; rw [HV.out]; exact HV2.out
          · exact hval.out i (by omega)
        clear hok
        by_cases hk0 : k = 0
        · have t4 : decide ((0 : Int) < (k : Int)) = false := by simp; omega
          have t5 : decide (0 < k) = false := by simp; omega
          have HK := Lib.hid hk0
          clear hk0
          rcases t123 with ⟨t1, t2, t3⟩ | t1
          all_goals
            go_wp2_with fail
            go_quiet (fail)
            go_wp2_with fail
            go_roundw
            case rel => exact ⟨k + 1, by go_num, by omega, hval2, Lib.hid (fun i hi => by have := HK.out; omega), hdr_add hdr.out _⟩
            case measure => simp [intOf]; omega
        · obtain ⟨j, hj⟩ : ∃ j, k = j + 1 := ⟨k - 1, by omega⟩
          have t4 : decide ((0 : Int) < (k : Int)) = true := by simp; omega
          have t5 : decide (0 < k) = true := by simp; omega
          have t5' : 0 < k := by omega
          obtain ⟨y, hy, cj⟩ := (HA.out.dr hdr.out).cell j (by omega)
          obtain rfl : x = y := Option.some.inj hy
          obtain ⟨u, hu⟩ : ∃ u, zs.getD j 0 = u := ⟨_, rfl⟩
          rw [hu] at cj
          have r1 : IntKind.i64.wrap ((k : Int) - 1) = (j : Int) := by rw [show (k : Int) - 1 = (j : Int) by omega]; exact IntWalk.i64_in _ ⟨by omega, by omega⟩
          have r2 : (k : Int) - 1 = (j : Int) := by omega
          have g3 : (0 : Int) ≤ (j : Int) := by omega
          have g4 : (j : Int) < (n : Int) := by omega
          have HJ := Lib.hid (And.intro hj hu)
          clear hy hj hu hk0
          by_cases hvu : v < u
          · have t6 : decide (v < u) = true := by simpa using hvu
            have e : b = false := by rw [← HB.out]; exact okC_mono (i := j) (by rw [HN.out]; have := HJ.out.1; omega) (by have h1 := HJ.out.1; rw [← h1, HV.out, HJ.out.2]; exact hvu)
            subst e
            rcases t123 with ⟨t1, t2, t3⟩ | t1
            all_goals
              go_wp2_with fail
              go_quiet (fail)
              go_wp2_with fail
              go_ret
              exact ⟨rfl, (below_dr HBl.out hdr.out).drewN _⟩
          · have t6 : decide (v < u) = false := by simpa using hvu
            have hmono2 : Hid (∀ i, i + 1 < k + 1 → zs.getD i 0 ≤ zs.getD (i + 1) 0) := Lib.hid fun i hi => by
              by_cases he : i = j
              · subst he; rw [HJ.out.2, ← HJ.out.1, HV.out]; omega
              · exact hmono.out i (by have := HJ.out.1; omega)
            rcases t123 with ⟨t1, t2, t3⟩ | t1
            all_goals
              go_wp2_with fail
              go_quiet (fail)
              go_wp2_with fail
              go_roundw
              case rel => exact ⟨k + 1, by go_num, by omega, hval2, hmono2, hdr_add hdr.out _⟩
              case measure => simp [intOf]; omega
    · obtain rfl : k = n := by omega
      obtain ⟨j, hj⟩ : ∃ j, k = j + 1 := ⟨k - 1, by omega⟩
      obtain ⟨i, hi2⟩ : ∃ i, k = i + q := ⟨k - q, by omega⟩
      obtain ⟨y, hy, cj⟩ := (HA.out.dr hdr.out).cell j (by omega)
      obtain rfl : x = y := Option.some.inj hy
      obtain ⟨y, hy2, ci⟩ := (HA.out.dr hdr.out).cell i (by omega)
      obtain rfl : x = y := Option.some.inj hy2
      obtain ⟨l, hl⟩ : ∃ l, zs.getD j 0 = l := ⟨_, rfl⟩
      obtain ⟨v, hv⟩ : ∃ v, zs.getD i 0 = v := ⟨_, rfl⟩
      have bl := hval.out j (by omega)
      have bv := hval.out i (by omega)
      have bvl := mono_le (zs := zs) (fun m hm => hmono.out m (by rw [HN.out] at hm; exact hm)) (j - i) i (by rw [HN.out]; omega)
      rw [show i + (j - i) = j by omega] at bvl
      rw [hl] at cj bl bvl
      rw [hv] at ci bv bvl
      have el : zs.getD (zs.length - 1) 0 = l := by rw [HN.out, show k - 1 = j by omega]; exact hl
      have ev : zs.getD (zs.length - q) 0 = v := by rw [HN.out, show k - q = i by omega]; exact hv
      have HE := Lib.hid (And.intro el ev)
      have G : Hid (l = infV → (q = 1 ∧ inc = 0) → b = true) := Lib.hid (fun h5 h6 => by
        rw [← HB.out, okC_iff]
        exact ⟨by rw [HN.out]; omega, by omega, by omega, by rw [HN.out]; omega, by omega, by omega, fun m hm => hval.out m (by rw [HN.out] at hm; exact hm), fun m hm => hmono.out m (by rw [HN.out] at hm; exact hm), fun _ => h6, fun hx => absurd (el.trans h5) hx⟩)
      have G' : Hid (¬ l = infV → l ≤ v + inc → b = true) := Lib.hid (fun h5 h6 => by
        rw [← HB.out, okC_iff]
        exact ⟨by rw [HN.out]; omega, by omega, by omega, by rw [HN.out]; omega, by omega, by omega, fun m hm => hval.out m (by rw [HN.out] at hm; exact hm), fun m hm => hmono.out m (by rw [HN.out] at hm; exact hm), fun hx => absurd (el.symm.trans hx) h5, fun _ => by rw [el, ev]; exact h6⟩)
      have w1' : IntKind.i64.wrap ((k : Int) - 1) = (j : Int) := by rw [show (k : Int) - 1 = (j : Int) by omega]; exact IntWalk.i64_in _ ⟨by omega, by omega⟩
      have w2' : IntKind.i64.wrap ((k : Int) - (q : Int)) = (i : Int) := by rw [show (k : Int) - (q : Int) = (i : Int) by omega]; exact IntWalk.i64_in _ ⟨by omega, by omega⟩
      have w3' : (0 : Int) ≤ (j : Int) := by omega
      have w4' : (0 : Int) ≤ (i : Int) := by omega
      have w5' : (j : Int) < (k : Int) := by omega
      have w6' : (i : Int) < (k : Int) := by omega
      have w7' : (k : Int) - 1 = (j : Int) := by omega
      have w8' : (k : Int) - (q : Int) = (i : Int) := by omega
      have HJ := Lib.hid (And.intro hj hi2)
      clear hj hi2 hl hv hy hy2 el ev
      by_cases hinf : l = infV
      · have hinf' : (l == 4611686018427387904) = true := by simpa using hinf
        have HF := Lib.hid hinf
        have HW := Lib.hid (And.intro w2' w8')
        clear hinf bl bv bvl w2' w8' w6' w4' ci
        by_cases hq : q = 1
        · have hq' : ((q : Int) == 1) = true := by simp [hq]
          have hq2 : (q == 1) = true := by simp [hq]
          by_cases hz : inc = 0
          · have hz' : (inc == 0) = true := by simpa using hz
            obtain rfl : b = true := G.out HF.out ⟨hq, hz⟩
            clear hq hz
            go_wp2_with fail
            go_ret
            exact ⟨rfl, below_dr HBl.out hdr.out⟩
          · have hz' : (inc == 0) = false := by simpa using hz
            obtain rfl : b = false := by rw [← HB.out]; exact okC_inf (by rw [HE.out.1]; exact HF.out) (fun h => hz h.2)
            clear hq hz
            go_wp2_with fail
            go_ret
            exact ⟨rfl, below_dr HBl.out hdr.out⟩
        · have hq' : ((q : Int) == 1) = false := by rw [beq_eq_false_iff_ne]; omega
          have hq2 : (q == 1) = false := by simpa using hq
          obtain rfl : b = false := by rw [← HB.out]; exact okC_inf (by rw [HE.out.1]; exact HF.out) (fun h => hq (by omega))
          clear hq
          go_wp2_with fail
          go_ret
          exact ⟨rfl, below_dr HBl.out hdr.out⟩
      · have hinf' : (l == 4611686018427387904) = false := by simpa using hinf
        have bv2 : 0 ≤ v ∧ v ≤ 1073741824 := by unfold infV at *; omega
        have bv3 := bv2.1
        have bv4 := bv2.2
        have hw9 : IntKind.i64.wrap (v + inc) = v + inc := IntWalk.i64_in _ ⟨by omega, by omega⟩
        have HF := Lib.hid hinf
        clear bv2 bl bv bvl hinf
        by_cases hle : l ≤ v + inc
        · have hle' : decide (l ≤ v + inc) = true := by simpa using hle
          obtain rfl : b = true := G'.out HF.out hle
          go_wp2_with fail
          go_quiet (fail)
          go_wp2_with fail
          go_ret
          exact ⟨rfl, (below_dr HBl.out hdr.out).drewN _⟩
        · have hle' : decide (l ≤ v + inc) = false := by simpa using hle
          obtain rfl : b = false := by rw [← HB.out]; exact okC_fin (by rw [HE.out.1]; exact HF.out) (by rw [HE.out.1, HE.out.2]; exact hle)
          go_wp2_with fail
          go_quiet (fail)
          go_wp2_with fail
          go_ret
          exact ⟨rfl, (below_dr HBl.out hdr.out).drewN _⟩

end Go.Proofs.YtkienpbmoilheaaGreat
