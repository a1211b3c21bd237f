/- Contract of the document's Least, at a finite curve. By the verifier's side. -/
import Derived.Test.YtdakadgfnlpogaaRefP
import Derived.Test.YtdakadgfnlpogaaKeepC
import Derived.Test.YtdakadgfnlpogaaKeepS
import Derived.Deep.DeepCutAuto
namespace Go.Proofs.Ytdakadgfnlpogaa
open Go.RowKit
set_option linter.unusedSimpArgs false

theorem firsts_take {zs : List Int} {p : Nat} {inc : Int} {m : Nat} (h : m ≤ zs.length) : firsts (atC zs p inc) m = zs.take m := by
  refine list_ext_getD (by rw [firsts_length, List.length_take]; omega) fun i hi => ?_
  rw [firsts_length] at hi
  rw [firsts_getD _ _ _ hi, getD_take hi, atC_lt (by omega)]

/-- What stands in Least: the curve's box and row, the result's box. -/
structure Ls (w : World) (a : Option Addr) (n cap P : Nat) (inc : Int) (zs : List Int) (wx : World) : Prop where
  bl : Below w.heap.size w wx
  bf : Cur3 wx w.heap.size (.slice a n cap) (.int .i64 P) (.int .i64 inc)
  rf : RowZ wx a n cap zs
  br : Cur3 wx (w.heap.size + 1) (.slice none 0 0) (.int .i64 0) (.int .i64 0)
theorem Ls.under {w u v : World} {a : Option Addr} {n cap P : Nat} {inc : Int} {zs : List Int} (h : Ls w a n cap P inc zs u) (hb : Below u.heap.size u v) : Ls w a n cap P inc zs v :=
  ⟨h.bl.trans (hb.mono h.bl.size), h.bf.below hb, h.rf.under hb, h.br.below hb⟩
abbrev LsS (w : World) (a : Option Addr) (n cap P : Nat) (inc : Int) (zs : List Int) (wx : World) : Prop :=
  wx.cell? ⟨w.heap.size, 0, none⟩ = some (.slice a n cap) ∧ wx.cell? ⟨w.heap.size, 1, none⟩ = some (.int .i64 P) ∧ wx.cell? ⟨w.heap.size, 2, none⟩ = some (.int .i64 inc) ∧ Hid (Ls w a n cap P inc zs wx)
theorem ls_s {w u : World} {a : Option Addr} {n cap P : Nat} {inc : Int} {zs : List Int} (h : Ls w a n cap P inc zs u) : LsS w a n cap P inc zs u := ⟨h.bf.c0, h.bf.c1, h.bf.c2, h⟩

theorem Ls.grow {w u v : World} {a : Option Addr} {n cap P : Nat} {inc : Int} {zs : List Int} (h : Ls w a n cap P inc zs u) (h0 : RowZ w a n cap zs) {row : Option Nat} (hg : u.grownBy v row) (hr : ∀ j, row = some j → w.heap.size + 1 + 1 ≤ j) {O : Nat} (hO : w.heap.size + 1 < O) (x : Value) :
    Ls w a n cap P inc zs (v.setCell ⟨O, 0, none⟩ x) := by
  have hb : Below w.heap.size w (v.setCell ⟨O, 0, none⟩ x) := (h.bl.grown hg h.bl.size (fun j hj => by have := hr j hj; omega)).setCell (p := ⟨O, 0, none⟩) (by show w.heap.size ≤ O; omega) x
  exact ⟨hb, (h.bf.grown hg (fun j hj => by have := hr j hj; omega)).other (by omega) _ _, h0.under hb, (h.br.grown hg (fun j hj => by have := hr j hj; omega)).other (by omega) _ _⟩

set_option maxRecDepth 100000 in
set_option maxHeartbeats 1000000 in
theorem rleast_fin (a : Option Addr) (n cap : Nat) (zs : List Int) (P : Nat) (inc : Int) (g : Good zs P inc) (hf : ¬ zs.getD (zs.length - 1) 0 = infV) (w : World) (h : RowZ w a n cap zs) :
    Calls Try.prog 37 #[curV a n cap P inc] w (GivesNorm zs P inc w) := by
  obtain ⟨i0, hi, hz0, hz1, hz2⟩ := info_parts info_int
  have hB : Below w.heap.size w ((w.alloc (.cells #[.slice a n cap, .int .i64 P, .int .i64 inc] 24)).alloc (.cells #[.slice none 0 0, .int .i64 0, .int .i64 0] 24)) := ((Below.refl _ _).alloc (Nat.le_refl _) _).alloc (by simp) _
  have H0 := Lib.hid h
  have L0 := Lib.hid (show Ls w a n cap P inc zs ((w.alloc (.cells #[.slice a n cap, .int .i64 P, .int .i64 inc] 24)).alloc (.cells #[.slice none 0 0, .int .i64 0, .int .i64 0] 24)) from
    ⟨hB, (Cur3.new w _ _ _ _).alloc _, h.under hB, Cur3.new2 w _ _ _ _ _⟩)
  have G := Lib.hid g
  have HL := Lib.hid h.len
  have HFI := Lib.hid hf
  have hn4 : n ≤ 400 := by have := g.few; have := h.len; omega
  have hP1 := g.p1; have hP2 := g.p2; have hi0 := g.i0; have hi1 := g.i1
  have hPn : P ≤ n := by have := g.p3; have := h.len; omega
  obtain ⟨s, hs⟩ : ∃ s, n = s + P := ⟨n - P, by omega⟩
  obtain ⟨f, hfe⟩ : ∃ f, atC zs P inc = f := ⟨_, rfl⟩
  have HBD : Hid (∀ t : Nat, 0 ≤ f t ∧ f t ≤ 1073741824 * ((t : Int) + 1)) := Lib.hid (by rw [← hfe]; exact g.bd hf)
  have HPER : Hid (Per f s P inc) := Lib.hid (by rw [← hfe]; have := g.per hf; rwa [h.len, show n - P = s by omega] at this)
  have HF := Lib.hid hfe
  have hsn : (n : Int) - (P : Int) = (s : Int) := by omega
  have HSN := Lib.hid hs
  have hs4 : s ≤ 400 := by omega
  clear h hB g hf hfe hs
  go_enter Try.func37, Try.ntmps37
  go_wp2_with fail
  generalize (w.alloc (.cells #[.slice a n cap, .int .i64 P, .int .i64 inc] 24)).alloc (.cells #[.slice none 0 0, .int .i64 0, .int .i64 0] 24) = w0 at L0 ⊢
  go_loopw [3] (fun s3 wx => ∃ k : Nat, s3 = .int .i64 k ∧ k ≤ n ∧ Hid (Ls w a n cap P inc zs wx)) (fun s3 _ => n - (intOf s3).toNat)
  case atStart => exact ⟨0, rfl, Nat.zero_le _, L0⟩
  case round =>
    clear L0
    obtain ⟨k, rfl, hk, L0⟩ := hrel
    obtain ⟨w0, rfl⟩ : ∃ u : World, u = wr := ⟨_, rfl⟩
    obtain ⟨c0, c1, c2, f0, f1, f2⟩ := L0.out.bf
    by_cases hlt : k < n
    · obtain ⟨x, rfl, ck⟩ := L0.out.rf.cell k hlt
      obtain ⟨v, hv⟩ : ∃ v, zs.getD k 0 = v := ⟨_, rfl⟩
      have hb := G.out.small HFI.out (i := k) (by rw [HL.out]; exact hlt)
      rw [hv] at ck hb
      have tv : (v == 4611686018427387904) = false := by simp; omega
      clear hv hb
      go_wp2_with fail
      go_roundw
      case rel => exact ⟨k + 1, by go_num, by omega, L0⟩
      case measure => simp [intOf]; omega
    · obtain rfl : k = n := by omega
      go_wp2_with fail
      clear c0 c1 c2 f0 f1 f2 hlt
      go_loopw [5] (fun s5 wx => ∃ q : Nat, s5 = .int .i64 q ∧ 1 ≤ q ∧ q ≤ P ∧ Hid (∀ r, 1 ≤ r → r < q → ¬ PerOk f s P inc r) ∧ Hid (Ls w a k cap P inc zs wx)) (fun s5 _ => P - (intOf s5).toNat)
      case atStart => exact ⟨1, rfl, by omega, by omega, fun r h1 h2 => by omega, L0⟩
      case round =>
        obtain ⟨q, rfl, hq1, hq2, hall, L1⟩ := hrel
        obtain ⟨w1, rfl⟩ : ∃ u : World, u = wr := ⟨_, rfl⟩
        obtain ⟨c0, c1, c2, f0, f1, f2⟩ := L1.out.bf
        go_wp2_with fail
        refine (rper_any a k cap zs P inc G.out HFI.out s q (by have := HSN.out; omega) hq1 hq2 _ L1.out.rf).mono ?_
        rintro e w2 ⟨b, hb, rfl, hb2⟩
        have HBB := Lib.hid hb
        have L2 := Lib.hid (L1.out.under hb2)
        clear hb hb2 c0 c1 c2 f0 f1 f2
        cases b with
        | false =>
          have hno : ¬ PerOk f s P inc q := fun hp => absurd (HBB.out.2 (by rw [HF.out]; exact hp)) (by decide)
          have hqP : q < P := by
            rcases Nat.lt_or_ge q P with h1 | h1
            · exact h1
            · exact absurd (by rw [show q = P by omega]; exact perOk_self hP1 HPER.out) hno
          have HNO := Lib.hid hno
          clear hno
          go_wp2_with fail
          go_roundw
          case rel =>
            refine ⟨q + 1, by go_num, by omega, by omega, Lib.hid fun r h1 h2 => ?_, L2⟩
            by_cases he : r = q
            · subst he; exact HNO.out
            · exact hall.out r h1 (by omega)
          case measure => simp [intOf]; omega
        | true =>
          have hyes : PerOk f s P inc q := by have := HBB.out.1 rfl; rwa [HF.out] at this
          obtain ⟨X, hX⟩ : ∃ X, inc * (q : Int) = X := ⟨_, rfl⟩
          have hXb : 0 ≤ X ∧ X ≤ 1073741824 * 120 := by rw [← hX]; exact ⟨Int.mul_nonneg hi0 (by omega), Int.mul_le_mul hi1 (by omega) (by omega) (by omega)⟩
          obtain ⟨hX0, hX1⟩ := hXb
          have hXw : IntKind.i64.wrap (inc * (q : Int)) = X := by rw [hX]; exact IntWalk.i64_in _ ⟨by omega, by omega⟩
          obtain ⟨d, hd⟩ : ∃ d, X / (P : Int) = d := ⟨_, rfl⟩
          have hdb : 0 ≤ d ∧ d ≤ X := by rw [← hd]; exact ⟨Int.ediv_nonneg hX0 (by omega), Int.ediv_le_self _ hX0⟩
          obtain ⟨hd0, hd1⟩ := hdb
          have hdf : f (s + q) - f s = d := by have h1 := hyes.2.2 s (Nat.le_refl _) (by omega); rw [hX, hd] at h1; omega
          have HG := Lib.hid (hyes.grows)
          have HD := Lib.hid hdf
          have z1 : ¬ (P : Int) = 0 := by omega
          have z2 : (1 : Int) ≤ (P : Int) := by omega
          have z4 : X.tdiv (P : Int) = d := by rw [Int.tdiv_eq_ediv_of_nonneg hX0]; exact hd
          have z6 : IntKind.i64.wrap d = d := IntWalk.i64_in _ ⟨by omega, by omega⟩
          have z7 : ¬ P = 0 := by omega
          clear hyes hX hdf
          obtain ⟨c0, c1, c2, f0, f1, f2⟩ := L2.out.bf
          go_wp2_with fail
          clear c0 c1 c2 f0 f1 f2 hd z4 hXw
          go_loopw [4] (fun s4 wx => ∃ t : Nat, s4 = .int .i64 t ∧ t ≤ s ∧ Hid (∀ u, t ≤ u → u < s → f (u + q) - f u = d) ∧ Hid (Ls w a k cap P inc zs wx)) (fun s4 _ => (intOf s4).toNat)
          case atStart => exact ⟨s, rfl, Nat.le_refl _, fun u h1 h2 => by omega, L2⟩
          case round =>
            obtain ⟨t, rfl, ht, hall2, L3⟩ := hrel
            obtain ⟨w3, rfl⟩ : ∃ u : World, u = wr := ⟨_, rfl⟩
            go_wp2_with fail
            go_cut [66] (fun s66 wx => ∃ bt : Bool, s66 = .bool bt ∧ (bt = true ↔ 0 < t ∧ f (t - 1 + q) = f (t - 1) + d) ∧ Hid (Ls w a k cap P inc zs wx))
            case first =>
              by_cases ht0 : t = 0
              · have u1 : decide (0 < t) = false := by simp; omega
                have u2 : decide ((0 : Int) < (t : Int)) = false := by simp; omega
                have HT := Lib.hid ht0
                clear ht0
                obtain ⟨c0, c1, c2, f0, f1, f2⟩ := L3.out.bf
                go_quiet (fail)
                go_wp2_with fail
                go_meet
                exact ⟨false, rfl, ⟨fun h => absurd h (by decide), fun h => by have := HT.out; omega⟩, L3.out.under ((Below.refl _ _).drewN _)⟩
              · have u1 : decide (0 < t) = true := by simp; omega
                have u2 : decide ((0 : Int) < (t : Int)) = true := by simp; omega
                have u3 : 0 < t := by omega
                obtain ⟨j, hj⟩ : ∃ j, t = j + 1 := ⟨t - 1, by omega⟩
                obtain ⟨v1, hv1⟩ : ∃ v, f (j + q) = v := ⟨_, rfl⟩
                obtain ⟨v2, hv2⟩ : ∃ v, f j = v := ⟨_, rfl⟩
                have b1 := HBD.out (j + q)
                have b2 := HBD.out j
                rw [hv1] at b1
                rw [hv2] at b2
                have e1 := HF.out
                have HV1 : Hid (atC zs P inc (j + q) = v1) := Lib.hid (by rw [e1]; exact hv1)
                have HV2 : Hid (atC zs P inc j = v2) := Lib.hid (by rw [e1]; exact hv2)
                have HV : Hid (f (t - 1 + q) = v1 ∧ f (t - 1) = v2) := Lib.hid (by rw [show t - 1 = j by omega]; exact ⟨hv1, hv2⟩)
                have s1 : IntKind.i64.wrap (v2 + d) = v2 + d := IntWalk.i64_in _ ⟨by omega, by omega⟩
                have s2 : IntKind.i64.wrap ((t : Int) - 1) = (j : Int) := by rw [show (t : Int) - 1 = (j : Int) by omega]; exact IntWalk.i64_in _ ⟨by omega, by omega⟩
                have s3 : (t : Int) - 1 = (j : Int) := by omega
                have s4 : IntKind.i64.wrap ((j : Int) + (q : Int)) = (j : Int) + (q : Int) := IntWalk.i64_in _ ⟨by omega, by omega⟩
                have s5 : IntKind.i64.wrap (j : Int) = (j : Int) := IntWalk.i64_in _ ⟨by omega, by omega⟩
                have hj4 : j ≤ 400 := by omega
                clear e1 hv1 hv2 b1 b2 ht0 hj
                have O1 := Lib.hid (ls_s (L3.out.under (Below.refl _ _).drew))
                refine wp_region_keeps (fun u => LsS w a k cap P inc zs u) 16 1 (by kernel_rfl) (by kernel_rfl) O1.out (fun hHeld => ?_)
                refine wpAnyK_take (i := 0) (v := ?_) rfl (by kernel_rfl) (fun _ _ _ h => h) (Or.inl ⟨by rfl, ?_⟩) (by assumption) ?_
                rotate_left
                · (intro w hSw; (try dsimp only at hSw); go_simp; try with_reducible rfl)
                try simp only [Act.put, List.getElem_toArray, List.getElem_cons_zero, List.getElem_cons_succ, List.setIfInBounds_toArray, List.set_cons_zero, List.set_cons_succ]
                refine wpAnyK_take (i := 1) (v := ?_) rfl (by kernel_rfl) (fun _ _ _ h => h) (Or.inl ⟨by rfl, ?_⟩) (by assumption) ?_
                rotate_left
                · (intro w hSw; (try dsimp only at hSw); go_simp; try with_reducible rfl)
                try simp only [Act.put, List.getElem_toArray, List.getElem_cons_zero, List.getElem_cons_succ, List.setIfInBounds_toArray, List.set_cons_zero, List.set_cons_succ]
                refine wpAnyK_take (i := 2) (v := ?_) rfl (by kernel_rfl) (fun _ _ _ h => h) (Or.inl ⟨by rfl, ?_⟩) (by assumption) ?_
                rotate_left
                · (intro w hSw; (try dsimp only at hSw); go_simp; try with_reducible rfl)
                try simp only [Act.put, List.getElem_toArray, List.getElem_cons_zero, List.getElem_cons_succ, List.setIfInBounds_toArray, List.set_cons_zero, List.set_cons_succ]
                refine wpAnyK_take (i := 3) (v := ?_) rfl (by kernel_rfl) (fun _ _ _ h => h) (Or.inl ⟨by rfl, ?_⟩) (by assumption) ?_
                rotate_left
                · (intro w hSw; (try dsimp only at hSw); go_simp; try with_reducible rfl)
                try simp only [Act.put, List.getElem_toArray, List.getElem_cons_zero, List.getElem_cons_succ, List.setIfInBounds_toArray, List.set_cons_zero, List.set_cons_succ]
                refine wpAnyK_take (i := 4) (v := ?_) rfl (by kernel_rfl) (fun _ _ _ h => h) (Or.inl ⟨by rfl, ?_⟩) (by assumption) ?_
                rotate_left
                · (intro w hSw; (try dsimp only at hSw); go_simp; try with_reducible rfl)
                try simp only [Act.put, List.getElem_toArray, List.getElem_cons_zero, List.getElem_cons_succ, List.setIfInBounds_toArray, List.set_cons_zero, List.set_cons_succ]
                refine wpAnyK_take (i := 5) (v := ?_) rfl (by kernel_rfl) (fun _ _ _ h => h) (Or.inl ⟨by rfl, ?_⟩) (by assumption) ?_
                rotate_left
                · (intro w hSw; (try dsimp only at hSw); go_simp; try with_reducible rfl)
                try simp only [Act.put, List.getElem_toArray, List.getElem_cons_zero, List.getElem_cons_succ, List.setIfInBounds_toArray, List.set_cons_zero, List.set_cons_succ]
                refine wpAnyK_take (i := 6) (v := ?_) rfl (by kernel_rfl) (fun _ _ _ h => h) (Or.inl ⟨by rfl, ?_⟩) (by assumption) ?_
                rotate_left
                · (intro w hSw; (try dsimp only at hSw); go_simp; try with_reducible rfl)
                try simp only [Act.put, List.getElem_toArray, List.getElem_cons_zero, List.getElem_cons_succ, List.setIfInBounds_toArray, List.set_cons_zero, List.set_cons_succ]
                refine wpAnyK_take (i := 7) (v := ?_) rfl (by kernel_rfl) (fun _ _ _ h => h) (Or.inl ⟨by rfl, ?_⟩) (by assumption) ?_
                rotate_left
                · (intro w hSw; (try dsimp only at hSw); go_simp; try with_reducible rfl)
                try simp only [Act.put, List.getElem_toArray, List.getElem_cons_zero, List.getElem_cons_succ, List.setIfInBounds_toArray, List.set_cons_zero, List.set_cons_succ]
                refine wpAnyK_take (i := 9) (v := ?_) rfl (by kernel_rfl) (fun _ _ _ h => h) (Or.inl ⟨by rfl, ?_⟩) (by assumption) ?_
                rotate_left
                · (intro w hSw; (try dsimp only at hSw); go_simp; try with_reducible rfl)
                try simp only [Act.put, List.getElem_toArray, List.getElem_cons_zero, List.getElem_cons_succ, List.setIfInBounds_toArray, List.set_cons_zero, List.set_cons_succ]
                refine wpAnyK_take (i := 10) (v := ?_) rfl (by kernel_rfl) (fun _ _ _ h => h) (Or.inl ⟨by rfl, ?_⟩) (by assumption) ?_
                rotate_left
                · (intro w hSw; (try dsimp only at hSw); go_simp; try with_reducible rfl)
                try simp only [Act.put, List.getElem_toArray, List.getElem_cons_zero, List.getElem_cons_succ, List.setIfInBounds_toArray, List.set_cons_zero, List.set_cons_succ]
                refine wpAnyK_take (i := 11) (v := ?_) rfl (by kernel_rfl) (fun _ _ _ h => h) (Or.inl ⟨by rfl, ?_⟩) (by assumption) ?_
                rotate_left
                · (intro w hSw; (try dsimp only at hSw); go_simp; try with_reducible rfl)
                try simp only [Act.put, List.getElem_toArray, List.getElem_cons_zero, List.getElem_cons_succ, List.setIfInBounds_toArray, List.set_cons_zero, List.set_cons_succ]
                refine wpAnyK_take (i := 13) (v := ?_) rfl (by kernel_rfl) (fun _ _ _ h => h) (Or.inl ⟨by rfl, ?_⟩) (by assumption) ?_
                rotate_left
                · (intro w hSw; (try dsimp only at hSw); go_simp; try with_reducible rfl)
                try simp only [Act.put, List.getElem_toArray, List.getElem_cons_zero, List.getElem_cons_succ, List.setIfInBounds_toArray, List.set_cons_zero, List.set_cons_succ]
                refine wpAnyK_step (i := 8) rfl (by kernel_rfl) (fun K hK => ?_)
                go_simp
                refine (rat_at a k cap zs P inc G.out _ (j + q) (by omega) (by omega) v1 HV1.out _ O1.out.2.2.2.out.rf).mono ?_
                rintro e w4 ⟨rfl, hb4⟩
                have O2 := Lib.hid (ls_s (O1.out.2.2.2.out.under hb4))
                refine hK.out _ _ O2.out (fun hHeld2 => ?_)
                clear hK K hHeld hb4
                try simp only [Act.put, List.getElem_toArray, List.getElem_cons_zero, List.getElem_cons_succ, List.setIfInBounds_toArray, List.set_cons_zero, List.set_cons_succ]
                refine wpAnyK_step (i := 12) rfl (by kernel_rfl) (fun K hK => ?_)
                go_simp
                refine (rat_at a k cap zs P inc G.out _ j rfl (by omega) v2 HV2.out _ O2.out.2.2.2.out.rf).mono ?_
                rintro e w5 ⟨rfl, hb5⟩
                have O3 := Lib.hid (ls_s (O2.out.2.2.2.out.under hb5))
                refine hK.out _ _ O3.out (fun hHeld3 => ?_)
                clear hK K hHeld2 hb5
                try simp only [Act.put, List.getElem_toArray, List.getElem_cons_zero, List.getElem_cons_succ, List.setIfInBounds_toArray, List.set_cons_zero, List.set_cons_succ]
                refine wpAnyK_take (i := 14) (v := ?_) rfl (by kernel_rfl) (fun _ _ _ h => h) (Or.inl ⟨by rfl, ?_⟩) (by assumption) ?_
                rotate_left
                · (intro w hSw; (try dsimp only at hSw); go_simp; try with_reducible rfl)
                try simp only [Act.put, List.getElem_toArray, List.getElem_cons_zero, List.getElem_cons_succ, List.setIfInBounds_toArray, List.set_cons_zero, List.set_cons_succ]
                refine wpAnyK_take (i := 15) (v := ?_) rfl (by kernel_rfl) (fun _ _ _ h => h) (Or.inl ⟨by rfl, ?_⟩) (by assumption) ?_
                rotate_left
                · (intro w hSw; (try dsimp only at hSw); go_simp; try with_reducible rfl)
                try simp only [Act.put, List.getElem_toArray, List.getElem_cons_zero, List.getElem_cons_succ, List.setIfInBounds_toArray, List.set_cons_zero, List.set_cons_succ]
                refine wpAnyK_done (by kernel_rfl) ?_
                simp only [List.drop_succ_cons, List.drop_zero]
                clear hHeld3
                go_wp2_with fail
                go_meet
                exact ⟨v1 == v2 + d, rfl, ⟨fun h => ⟨u3, by rw [HV.out.1, HV.out.2]; exact beq_iff_eq.1 h⟩, fun h => by rw [HV.out.1, HV.out.2] at h; exact beq_iff_eq.2 h.2⟩, O3.out.2.2.2⟩
            case rest =>
              obtain ⟨bt, rfl, hbt, L4⟩ := hcut
              obtain ⟨w4, rfl⟩ : ∃ u : World, u = wc := ⟨_, rfl⟩
              have HBT := Lib.hid hbt
              clear hbt L3
              cases bt with
              | true =>
                have ht0 := (HBT.out.1 rfl).1
                obtain ⟨j, rfl⟩ : ∃ j, t = j + 1 := ⟨t - 1, by omega⟩
                have HT := Lib.hid (HBT.out.1 rfl).2
                clear ht0
                go_wp2_with fail
                go_roundw
                case rel =>
                  refine ⟨j, by go_num, by omega, Lib.hid fun u h1 h2 => ?_, L4⟩
                  by_cases he : u = j
                  · subst he; have h3 := HT.out; rw [Nat.add_sub_cancel] at h3; omega
                  · exact hall2.out u (by omega) h2
                case measure => simp [intOf]
              | false =>
                have hend : t = 0 ∨ ¬ f (t - 1 + q) - f (t - 1) = d := by
                  by_cases h0 : t = 0
                  · exact .inl h0
                  · exact .inr fun h3 => absurd (HBT.out.2 ⟨by omega, by omega⟩) (by decide)
                have HNO : Hid (NormOf f t q d) := Lib.hid (by
                  have h4 := normOf_found (r := q) HPER.out hP1 hq1 hq2 (fun _ => HG.out) (perOk_least hP1 HPER.out hall.out) ht (fun u h1 h2 => by rw [HD.out]; exact hall2.out u h1 h2) (by rw [HD.out]; exact hend)
                  rwa [HD.out] at h4)
                obtain ⟨m, hm⟩ : ∃ m, t + q = m := ⟨_, rfl⟩
                have hmk : m ≤ k := by have := HSN.out; omega
                have hmI : (t : Int) + (q : Int) = (m : Int) := by omega
                have hmw : IntKind.i64.wrap ((t : Int) + (q : Int)) = (m : Int) := by rw [hmI]; exact IntWalk.i64_in _ ⟨by omega, by omega⟩
                have HMM := Lib.hid hm
                clear hend hm
                go_wp2_with fail
                have hO : w.heap.size + 1 < w4.heap.size := L4.out.br.lt
                have L5 := Lib.hid (L4.out.under ((Below.refl _ _).alloc (Nat.le_refl _) (.cells #[.slice none 0 0, .int .i64 q, .int .i64 d] 24)))
                have B5 := Lib.hid (Cur3.new w4 (.slice none 0 0) (.int .i64 q) (.int .i64 d) 24)
                obtain ⟨O, hOe⟩ : ∃ O, w4.heap.size = O := ⟨_, rfl⟩
                generalize w4.alloc (.cells #[.slice none 0 0, .int .i64 q, .int .i64 d] 24) = w5 at L5 B5 ⊢
                rw [hOe] at hO B5 ⊢
                clear hOe L4 hall2
                have hwO1 : ¬ w.heap.size = O := by omega
                have hwO2 : ¬ w.heap.size + 1 = O := by omega
                go_loopw [8] (fun s8 wx => ∃ (k2 : Nat) (sv : Value), s8 = .int .i64 k2 ∧ k2 ≤ m ∧ Hid (Ls w a k cap P inc zs wx) ∧ Hid (Cur3 wx O sv (.int .i64 q) (.int .i64 d)) ∧ Hid (wx.ownsRow (O + 1) 3 1 sv k2 ((firsts f k2).map (Value.int .i64)))) (fun s8 _ => m - (intOf s8).toNat)
                case atStart => exact ⟨0, .slice none 0 0, rfl, Nat.zero_le _, L5, B5, World.ownsRow_nil _ _ _ _⟩
                case round =>
                  obtain ⟨k2, sv, rfl, hk2, L6, B6, O6⟩ := hrel
                  obtain ⟨w6, rfl⟩ : ∃ u : World, u = wr := ⟨_, rfl⟩
                  by_cases hlt : k2 < m
                  · have hlt' : (k2 : Int) < (m : Int) := by omega
                    obtain ⟨v, hv⟩ : ∃ v, f k2 = v := ⟨_, rfl⟩
                    have e1 := HF.out
                    have HV1 : Hid (atC zs P inc k2 = v) := Lib.hid (by rw [e1]; exact hv)
                    have HV2 := Lib.hid hv
                    clear e1 hv
                    go_wp2_with fail
                    refine wp_region_keeps (fun u => u.cell? ⟨O, 0, none⟩ = some sv ∧ LsS w a k cap P inc zs u) 6 3 (by kernel_rfl) (by kernel_rfl) ⟨B6.out.c0, ls_s (L6.out.under (Below.refl _ _).drew)⟩ (fun hHeld => ?_)
                    refine wpAnyK_take (i := 0) (v := ?_) rfl (by kernel_rfl) (fun _ _ _ h => h) (Or.inl ⟨by rfl, ?_⟩) (by assumption) ?_
                    rotate_left
                    · (intro w hSw; (try dsimp only at hSw); go_simp; try with_reducible rfl)
                    try simp only [Act.put, List.getElem_toArray, List.getElem_cons_zero, List.getElem_cons_succ, List.setIfInBounds_toArray, List.set_cons_zero, List.set_cons_succ]
                    refine wpAnyK_take (i := 1) (v := ?_) rfl (by kernel_rfl) (fun _ _ _ h => h) (Or.inl ⟨by rfl, ?_⟩) (by assumption) ?_
                    rotate_left
                    · (intro w hSw; (try dsimp only at hSw); go_simp; try with_reducible rfl)
                    try simp only [Act.put, List.getElem_toArray, List.getElem_cons_zero, List.getElem_cons_succ, List.setIfInBounds_toArray, List.set_cons_zero, List.set_cons_succ]
                    refine wpAnyK_take (i := 2) (v := ?_) rfl (by kernel_rfl) (fun _ _ _ h => h) (Or.inl ⟨by rfl, ?_⟩) (by assumption) ?_
                    rotate_left
                    · (intro w hSw; (try dsimp only at hSw); go_simp; try with_reducible rfl)
                    try simp only [Act.put, List.getElem_toArray, List.getElem_cons_zero, List.getElem_cons_succ, List.setIfInBounds_toArray, List.set_cons_zero, List.set_cons_succ]
                    refine wpAnyK_take (i := 3) (v := ?_) rfl (by kernel_rfl) (fun _ _ _ h => h) (Or.inl ⟨by rfl, ?_⟩) (by assumption) ?_
                    rotate_left
                    · (intro w hSw; (try dsimp only at hSw); go_simp; try with_reducible rfl)
                    try simp only [Act.put, List.getElem_toArray, List.getElem_cons_zero, List.getElem_cons_succ, List.setIfInBounds_toArray, List.set_cons_zero, List.set_cons_succ]
                    refine wpAnyK_step (i := 4) rfl (by kernel_rfl) (fun K hK => ?_)
                    go_simp
                    refine (rat_at a k cap zs P inc G.out _ k2 rfl (by omega) v HV1.out _ (L6.out.under (Below.refl _ _).drew).rf).mono ?_
                    rintro e w7 ⟨rfl, hb7⟩
                    have hb67 : Below w6.heap.size w6 w7 := ((Below.refl _ _).drew : Below w6.heap.size w6 w6.drew).trans hb7
                    have L7 := Lib.hid (L6.out.under hb67)
                    have B7 := Lib.hid (B6.out.below hb67)
                    have O7 : Hid (w7.ownsRow (O + 1) 3 1 sv k2 ((firsts f k2).map (Value.int .i64))) := Lib.hid (owns_apart O6.out (below_apart (b := w.heap.size) hb67) (by omega))
                    refine hK.out _ _ ⟨B7.out.c0, ls_s L7.out⟩ (fun hHeld2 => ?_)
                    clear hK K hHeld hb7 hb67
                    try simp only [Act.put, List.getElem_toArray, List.getElem_cons_zero, List.getElem_cons_succ, List.setIfInBounds_toArray, List.set_cons_zero, List.set_cons_succ]
                    refine wpAnyK_step (i := 5) rfl (by kernel_rfl) (fun K hK => ?_)
                    go_simp
                    have L8 := Lib.hid (L7.out.under ((Below.refl _ _).alloc (Nat.le_refl _) (.cells #[.int .i64 v] 3)))
                    have B8 := Lib.hid (B7.out.alloc (.cells #[.int .i64 v] 3))
                    refine hK.out _ _ ⟨B8.out.c0, ls_s L8.out⟩ (fun hHeld3 => ?_)
                    clear hK K hHeld2
                    try simp only [Act.put, List.getElem_toArray, List.getElem_cons_zero, List.getElem_cons_succ, List.setIfInBounds_toArray, List.set_cons_zero, List.set_cons_succ]
                    refine wpAnyK_done (by kernel_rfl) ?_
                    simp only [List.drop_succ_cons, List.drop_zero]
                    clear hHeld3
                    have O8 := Lib.hid (O7.out.alloc (.cells #[.int .i64 v] 3))
                    have N8 : Hid (∀ j u, [Value.int .i64 v][j]? = some u → (w7.alloc (.cells #[.int .i64 v] 3)).cell? ((⟨w7.heap.size, 0, none⟩ : Addr).add j) = some u) := Lib.hid (World.news_of_block (cs := #[.int .i64 v]) (t := 3) (fr := (0, 0)) (heap_alloc_new w7 _))
                    generalize w7.alloc (.cells #[.int .i64 v] 3) = w8 at L8 B8 O8 N8 ⊢
                    go_wp2_with (at_builtin; refine wpList_append_own _ rfl _ _ 22 rfl (O + 1) 3 i0 (.int .i64 0) 1 8 Try.underlying22 hi hz0 hz1 hz2 rfl (by decide) _ _ _ rfl O8.out ⟨w7.heap.size, 0, none⟩ 1 1 [.int .i64 v] rfl rfl N8.out ?c2 ?c3 ?c4 ?c5 ?_)
                    case c2 => intro u hu; simp at hu; subst hu; rfl
                    case c3 => unfold maxLen; omega
                    case c4 => omega
                    case c5 => have := B8.out.lt; omega
                    intro v' w9 hown' hgrow _
                    obtain ⟨g9, cap9, rfl, hg9, hg9'⟩ := hown'.form (Nat.succ_pos _)
                    have hrow : ∀ j, sv.ownBlock = some j → O + 1 ≤ j := fun j hj => (O8.out.lt j hj).1
                    have L9 := Lib.hid (L8.out.grow H0.out hgrow (fun j hj => by have := hrow j hj; omega) hO (.slice (some ⟨g9, 0, none⟩) (k2 + 1) cap9))
                    have B9 := Lib.hid (B8.out.grown hgrow (fun j hj => by have := hrow j hj; omega))
                    have B10 := Lib.hid (B9.out.set0 (.slice (some ⟨g9, 0, none⟩) (k2 + 1) cap9))
                    have O10 : Hid ((w9.setCell ⟨O, 0, none⟩ (.slice (some ⟨g9, 0, none⟩) (k2 + 1) cap9)).ownsRow (O + 1) 3 1 (.slice (some ⟨g9, 0, none⟩) (k2 + 1) cap9) (k2 + 1) ((firsts f (k2 + 1)).map (Value.int .i64))) := Lib.hid (by
                      rw [firsts_succ, List.map_append, HV2.out]
                      exact owns_set hown' (p := ⟨O, 0, none⟩) (Nat.lt_succ_self _) _)
                    clear hown' hgrow hrow
                    obtain ⟨d0, d1, d2, e0, e1, e2⟩ := B9.out
                    go_wp2_with fail
                    go_roundw
                    case rel => exact ⟨k2 + 1, _, by go_num, by omega, L9, B10, O10⟩
                    case measure => simp [intOf]; omega
                  · obtain rfl : k2 = m := by omega
                    have hm0 : 0 < k2 := by have := HMM.out; omega
                    obtain ⟨g9, cap9, rfl, hg9, hg9'⟩ := O6.out.form hm0
                    obtain ⟨a9, c9, hv9, R9, X9⟩ := rowZ_of_owns O6.out (by omega) (fun i hi => by rw [firsts_length] at hi; rw [firsts_getD _ _ _ hi]; have := HBD.out i; exact ⟨by omega, by omega⟩)
                    obtain ⟨rfl, rfl⟩ : some ⟨g9, 0, none⟩ = a9 ∧ cap9 = c9 := by cases hv9; exact ⟨rfl, rfl⟩
                    have HP := Lib.hid (norm_post (b := w.heap.size + 1) (w := w) (zs := zs) (p := P) (inc := inc) L6.out.bl (Nat.le_succ _) R9 (fun y hy => by cases hy; show w.heap.size + 1 < g9; omega) q d (.inl ⟨HFI.out, t, by rw [HF.out]; exact HNO.out, by rw [HMM.out, ← HF.out]; exact firsts_take (by rw [HL.out]; exact hmk), by rw [HMM.out, HL.out]; exact hmk, hq2⟩))
                    obtain ⟨d0, d1, d2, e0, e1, e2⟩ := B6.out
                    obtain ⟨o0, o1, o2, p0, p1, p2⟩ := L6.out.br
                    clear hv9 R9 X9
                    go_wp2_with fail
                    exact bodyPost_ret (v := curV (some ⟨g9, 0, none⟩) k2 cap9 q d) (by simp [results, Try.results37, go_sem, o0, o1, o2]) rfl HP.out

end Go.Proofs.Ytdakadgfnlpogaa
