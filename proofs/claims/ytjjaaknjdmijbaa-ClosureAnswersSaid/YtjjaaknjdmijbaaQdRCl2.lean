/- Of the document's closure: Adds. By the verifier's side. -/
import Derived.Test.YtjjaaknjdmijbaaQdRCl1
import Derived.Test.YtjjaaknjdmijbaaQdCloC
namespace Go.Proofs.Ytjjaaknjdmijbaa
open Go.RowKit
set_option linter.unusedSimpArgs false
set_option linter.unusedVariables false

/-- All sums of two ticks below the length. -/
theorem sub_all {zs : List Int} {p : Nat} {inc : Int} (g : Good zs p inc) : (∀ s, s < zs.length → ∀ u, u < zs.length → atC zs p inc (s + u) ≤ plI (atC zs p inc s) (atC zs p inc u)) ↔ SubA (eC zs p inc) := by
  rw [← sub_iff g]
  constructor
  · exact fun h s hs u hu => h s hs u (by omega)
  · intro h s hs u hu
    by_cases e : u ≤ s
    · exact h s hs u e
    · have := h u hu s (by omega)
      rw [Nat.add_comm s u]
      have c : plI (atC zs p inc s) (atC zs p inc u) = plI (atC zs p inc u) (atC zs p inc s) := by unfold plI; by_cases h1 : atC zs p inc s = infV <;> by_cases h2 : atC zs p inc u = infV <;> simp [h1, h2, Int.add_comm]
      rw [c]; exact this

/-- A curve in its box, first of all. -/
structure AD (w : World) (ad : Addr) (n cap p : Nat) (inc : Int) (zs : List Int) (u : World) : Prop where
  x : Bx u w.heap.size (some ad) n cap p inc zs
  below : Below w.heap.size w u
theorem AD.call {w u v : World} {ad : Addr} {n cap p : Nat} {inc : Int} {zs : List Int} (h : AD w ad n cap p inc zs u) (hb : Below u.heap.size u v) : AD w ad n cap p inc zs v := ⟨h.x.under hb, h.below.trans (hb.mono h.below.size)⟩
theorem AD.cell {w u : World} {ad : Addr} {n cap p : Nat} {inc : Int} {zs : List Int} (h : AD w ad n cap p inc zs u) {i : Nat} (hi : i < n) {v : Int} (hv : zs.getD i 0 = v) : u.cell? (ad.add i) = some (.int .i64 v) := by
  obtain ⟨x, hx, hc⟩ := h.x.row.at i hi
  cases hx
  rw [hc, hv]

set_option maxRecDepth 100000 in
set_option maxHeartbeats 3200000 in
theorem radds9 (a : Option Addr) (n cap : Nat) (zs : List Int) (p : Nat) (inc : Int) (g : Good zs p inc) (b : Bool) (hb : b = true ↔ SubA (eC zs p inc)) (w : World) (h : RowZ w a n cap zs) :
    Calls Try.prog 117 #[curV a n cap p inc] w (Says (.bool b) w) := by
  rw [← sub_all g] at hb
  have hn : zs.length = n := h.len
  have hn4 : n ≤ 400 := by have := g.few; omega
  have hn1 : 1 ≤ n := by have := g.p1; have := g.p3; omega
  obtain ⟨ad, rfl, _⟩ := h.at 0 (by omega)
  rw [hn] at hb
  have G0 := Lib.hid g
  have HB := Lib.hid hb
  have HGD := Lib.hid (show ∀ i, i < n → zs.getD i 0 = atC zs p inc i from fun i hi => by
    unfold atC; rw [if_pos (by omega)])
  obtain ⟨W, hW⟩ : ∃ W, w.alloc (.cells #[.slice (some ad) n cap, .int .i64 p, .int .i64 inc] 24) = W := ⟨_, rfl⟩
  have A0 := Lib.hid (show AD w ad n cap p inc zs W from ⟨by rw [← hW]; exact Bx.new h, by rw [← hW]; exact below_box _⟩)
  have HW := Lib.hid hW
  clear h g hb hW hn
  go_enter Try.func117, Try.ntmps117
  go_upto_region 1 with fail
  try rw [HW.out]
  go_wp2_with fail
  go_loopw [3] (fun s3 wx => ∃ k : Nat, s3 = .int .i64 k ∧ k ≤ n ∧ Hid (∀ s, s < k → ∀ u, u < n → atC zs p inc (s + u) ≤ plI (atC zs p inc s) (atC zs p inc u)) ∧ Hid (AD w ad n cap p inc zs wx)) (fun s3 _ => n - (intOf s3).toNat)
  case atStart => exact ⟨0, by go_num, by omega, fun s hs => absurd hs (Nat.not_lt_zero s), A0⟩
  case round =>
    clear A0
    obtain ⟨k, rfl, hk, HLE, A1⟩ := hrel
    obtain ⟨wk, rfl⟩ : ∃ u : World, u = wr := ⟨_, rfl⟩
    obtain ⟨c0, c1, c2, c3, c4, c5⟩ := A1.out.x.box
    by_cases hlt : k < n
    rotate_left
    · obtain rfl : k = n := by omega
      have hki : ¬ (k : Int) < (k : Int) := by omega
      obtain rfl : b = true := HB.out.2 HLE.out
      go_wp2_with fail
      go_ret
      exact ⟨rfl, A1.out.below⟩
    have hki : (k : Int) < (n : Int) := by omega
    go_wp2_with fail
    clear c0 c1 c2 c3 c4 c5
    go_loopw [4] (fun s4 wx => ∃ j : Nat, s4 = .int .i64 j ∧ j ≤ n ∧ Hid (∀ u, u < j → atC zs p inc (k + u) ≤ plI (atC zs p inc k) (atC zs p inc u)) ∧ Hid (AD w ad n cap p inc zs wx)) (fun s4 _ => n - (intOf s4).toNat)
    case atStart => exact ⟨0, by go_num, by omega, fun u hu => absurd hu (Nat.not_lt_zero u), A1⟩
    case round =>
      clear A1
      obtain ⟨j, rfl, hj, HLJ, A2⟩ := hrel
      obtain ⟨w2, rfl⟩ : ∃ u : World, u = wr := ⟨_, rfl⟩
      obtain ⟨c0, c1, c2, c3, c4, c5⟩ := A2.out.x.box
      by_cases hjt : j < n
      rotate_left
      · obtain rfl : j = n := by omega
        have hji : ¬ (j : Int) < (j : Int) := by omega
        go_wp2_with fail
        go_roundw
        case rel => exact ⟨k + 1, by go_num, by omega, fun s hs u hu => by
          by_cases e : s = k
          · subst e; exact HLJ.out u hu
          · exact HLE.out s (by omega) u hu, A2⟩
        case measure => simp [intOf]; omega
      have hji : (j : Int) < (n : Int) := by omega
      obtain ⟨vx, hvx⟩ : ∃ v, atC zs p inc k = v := ⟨_, rfl⟩
      obtain ⟨vy, hvy⟩ : ∃ v, atC zs p inc j = v := ⟨_, rfl⟩
      obtain ⟨vp, hvp⟩ : ∃ v, plI vx vy = v := ⟨_, rfl⟩
      obtain ⟨m, hm⟩ : ∃ m, k + j = m := ⟨_, rfl⟩
      obtain ⟨vh, hvh⟩ : ∃ v, atC zs p inc m = v := ⟨_, rfl⟩
      have MX := Lib.hid (show Mid vx ∧ Mid vy by rw [← hvx, ← hvy]; exact ⟨at_mid2 G0.out (by omega), at_mid2 G0.out (by omega)⟩)
      have HVV := Lib.hid (And.intro hvx (And.intro hvy (And.intro hvp hvh)))
      have hmi : (k : Int) + (j : Int) = (m : Int) := by omega
      have hmw : IntKind.i64.wrap (m : Int) = (m : Int) := IntWalk.i64_in _ ⟨by omega, by omega⟩
      have hmb : m ≤ 20000 := by omega
      have HLK := Lib.hid (show atC zs p inc (k + j) ≤ plI (atC zs p inc k) (atC zs p inc j) ↔ vh ≤ vp by rw [hm, hvh, hvx, hvy, hvp])
      have HZ := Lib.hid (And.intro ((HGD.out k hlt).trans hvx) ((HGD.out j hjt).trans hvy))
      clear hvx hvy hvp hvh hm
      go_wp2_with fail
      clear c0 c1 c2 c3 c4 c5
      have Q0 := Lib.hid (A2.out.call (Below.refl _ _).drew)
      have KS := Lib.hid (show ∀ u, AD w ad n cap p inc zs u → (u.cell? ⟨w.heap.size, 0, none⟩ = some (.slice (some ad) n cap) ∧ u.cell? ⟨w.heap.size, 1, none⟩ = some (.int .i64 p) ∧ u.cell? ⟨w.heap.size, 2, none⟩ = some (.int .i64 inc)) ∧ (u.cell? (ad.add k) = some (.int .i64 vx) ∧ u.cell? (ad.add j) = some (.int .i64 vy)) ∧ Hid (AD w ad n cap p inc zs u) from fun u h => ⟨⟨h.x.box.c0, h.x.box.c1, h.x.box.c2⟩, ⟨h.cell hlt HZ.out.1, h.cell hjt HZ.out.2⟩, h⟩)
      go_cut [35] (fun s35 wx => s35 = .bool (decide (vp < vh)) ∧ Hid (AD w ad n cap p inc zs wx))
      case first =>
        refine wp_region_keeps (fun u => (u.cell? ⟨w.heap.size, 0, none⟩ = some (.slice (some ad) n cap) ∧ u.cell? ⟨w.heap.size, 1, none⟩ = some (.int .i64 p) ∧ u.cell? ⟨w.heap.size, 2, none⟩ = some (.int .i64 inc)) ∧ (u.cell? (ad.add k) = some (.int .i64 vx) ∧ u.cell? (ad.add j) = some (.int .i64 vy)) ∧ Hid (AD w ad n cap p inc zs u)) 16 1 (by kernel_rfl) (by kernel_rfl) (KS.out _ Q0.out) (fun hHeld0 => ?_)
        refine wpAnyK_take (i := 0) (v := ?_) rfl (by kernel_rfl) (fun _ _ _ h => h) (Or.inl ⟨by rfl, ?_⟩) (by assumption) ?_
        rotate_left
        · (intro w hSw; (try dsimp only at hSw); go_simp; try with_reducible rfl)
        try simp only [Act.put, List.getElem_toArray, List.getElem_cons_zero, List.getElem_cons_succ, List.setIfInBounds_toArray, List.set_cons_zero, List.set_cons_succ]
        refine wpAnyK_take (i := 1) (v := ?_) rfl (by kernel_rfl) (fun _ _ _ h => h) (Or.inl ⟨by rfl, ?_⟩) (by assumption) ?_
        rotate_left
        · (intro w hSw; (try dsimp only at hSw); go_simp; try with_reducible rfl)
        try simp only [Act.put, List.getElem_toArray, List.getElem_cons_zero, List.getElem_cons_succ, List.setIfInBounds_toArray, List.set_cons_zero, List.set_cons_succ]
        refine wpAnyK_take (i := 2) (v := ?_) rfl (by kernel_rfl) (fun _ _ _ h => h) (Or.inl ⟨by rfl, ?_⟩) (by assumption) ?_
        rotate_left
        · (intro w hSw; (try dsimp only at hSw); go_simp; try with_reducible rfl)
        try simp only [Act.put, List.getElem_toArray, List.getElem_cons_zero, List.getElem_cons_succ, List.setIfInBounds_toArray, List.set_cons_zero, List.set_cons_succ]
        refine wpAnyK_take (i := 3) (v := ?_) rfl (by kernel_rfl) (fun _ _ _ h => h) (Or.inl ⟨by rfl, ?_⟩) (by assumption) ?_
        rotate_left
        · (intro w hSw; (try dsimp only at hSw); go_simp; try with_reducible rfl)
        try simp only [Act.put, List.getElem_toArray, List.getElem_cons_zero, List.getElem_cons_succ, List.setIfInBounds_toArray, List.set_cons_zero, List.set_cons_succ]
        refine wpAnyK_take (i := 5) (v := ?_) rfl (by kernel_rfl) (fun _ _ _ h => h) (Or.inl ⟨by rfl, ?_⟩) (by assumption) ?_
        rotate_left
        · (intro w hSw; (try dsimp only at hSw); go_simp; try with_reducible rfl)
        try simp only [Act.put, List.getElem_toArray, List.getElem_cons_zero, List.getElem_cons_succ, List.setIfInBounds_toArray, List.set_cons_zero, List.set_cons_succ]
        refine wpAnyK_take (i := 6) (v := ?_) rfl (by kernel_rfl) (fun _ _ _ h => h) (Or.inl ⟨by rfl, ?_⟩) (by assumption) ?_
        rotate_left
        · (intro w hSw; (try dsimp only at hSw); go_simp; try with_reducible rfl)
        try simp only [Act.put, List.getElem_toArray, List.getElem_cons_zero, List.getElem_cons_succ, List.setIfInBounds_toArray, List.set_cons_zero, List.set_cons_succ]
        refine wpAnyK_take (i := 7) (v := ?_) rfl (by kernel_rfl) (fun _ _ _ h => h) (Or.inl ⟨by rfl, ?_⟩) (by assumption) ?_
        rotate_left
        · (intro w hSw; (try dsimp only at hSw); go_simp; try with_reducible rfl)
        try simp only [Act.put, List.getElem_toArray, List.getElem_cons_zero, List.getElem_cons_succ, List.setIfInBounds_toArray, List.set_cons_zero, List.set_cons_succ]
        refine wpAnyK_take (i := 8) (v := ?_) rfl (by kernel_rfl) (fun _ _ _ h => h) (Or.inl ⟨by rfl, ?_⟩) (by assumption) ?_
        rotate_left
        · (intro w hSw; (try dsimp only at hSw); go_simp; try with_reducible rfl)
        try simp only [Act.put, List.getElem_toArray, List.getElem_cons_zero, List.getElem_cons_succ, List.setIfInBounds_toArray, List.set_cons_zero, List.set_cons_succ]
        refine wpAnyK_take (i := 9) (v := ?_) rfl (by kernel_rfl) (fun _ _ _ h => h) (Or.inl ⟨by rfl, ?_⟩) (by assumption) ?_
        rotate_left
        · (intro w hSw; (try dsimp only at hSw); go_simp; try with_reducible rfl)
        try simp only [Act.put, List.getElem_toArray, List.getElem_cons_zero, List.getElem_cons_succ, List.setIfInBounds_toArray, List.set_cons_zero, List.set_cons_succ]
        refine wpAnyK_take (i := 10) (v := ?_) rfl (by kernel_rfl) (fun _ _ _ h => h) (Or.inl ⟨by rfl, ?_⟩) (by assumption) ?_
        rotate_left
        · (intro w hSw; (try dsimp only at hSw); go_simp; try with_reducible rfl)
        try simp only [Act.put, List.getElem_toArray, List.getElem_cons_zero, List.getElem_cons_succ, List.setIfInBounds_toArray, List.set_cons_zero, List.set_cons_succ]
        refine wpAnyK_take (i := 11) (v := ?_) rfl (by kernel_rfl) (fun _ _ _ h => h) (Or.inl ⟨by rfl, ?_⟩) (by assumption) ?_
        rotate_left
        · (intro w hSw; (try dsimp only at hSw); go_simp; try with_reducible rfl)
        try simp only [Act.put, List.getElem_toArray, List.getElem_cons_zero, List.getElem_cons_succ, List.setIfInBounds_toArray, List.set_cons_zero, List.set_cons_succ]
        refine wpAnyK_take (i := 12) (v := ?_) rfl (by kernel_rfl) (fun _ _ _ h => h) (Or.inl ⟨by rfl, ?_⟩) (by assumption) ?_
        rotate_left
        · (intro w hSw; (try dsimp only at hSw); go_simp; try with_reducible rfl)
        try simp only [Act.put, List.getElem_toArray, List.getElem_cons_zero, List.getElem_cons_succ, List.setIfInBounds_toArray, List.set_cons_zero, List.set_cons_succ]
        refine wpAnyK_take (i := 13) (v := ?_) rfl (by kernel_rfl) (fun _ _ _ h => h) (Or.inl ⟨by rfl, ?_⟩) (by assumption) ?_
        rotate_left
        · (intro w hSw; (try dsimp only at hSw); go_simp; try with_reducible rfl)
        try simp only [Act.put, List.getElem_toArray, List.getElem_cons_zero, List.getElem_cons_succ, List.setIfInBounds_toArray, List.set_cons_zero, List.set_cons_succ]
        refine wpAnyK_take (i := 14) (v := ?_) rfl (by kernel_rfl) (fun _ _ _ h => h) (Or.inl ⟨by rfl, ?_⟩) (by assumption) ?_
        rotate_left
        · (intro w hSw; (try dsimp only at hSw); go_simp; try with_reducible rfl)
        try simp only [Act.put, List.getElem_toArray, List.getElem_cons_zero, List.getElem_cons_succ, List.setIfInBounds_toArray, List.set_cons_zero, List.set_cons_succ]
        refine wpAnyK_step (i := 4) rfl (by kernel_rfl) (fun K hK => ?_)
        go_simp
        with_reducible refine (rat_at (some ad) n cap zs p inc G0.out m m rfl (by omega) vh HVV.out.2.2.2 _ Q0.out.x.row).mono ?_
        rintro e y1 ⟨rfl, hb⟩
        have Q1 := Lib.hid (Q0.out.call hb)
        clear hb
        refine hK.out _ _ (KS.out _ Q1.out) (fun hHeld1 => ?_)
        clear hK K hHeld0
        try simp only [Act.put, List.getElem_toArray, List.getElem_cons_zero, List.getElem_cons_succ, List.setIfInBounds_toArray, List.set_cons_zero, List.set_cons_succ]
        refine wpAnyK_step (i := 15) rfl (by kernel_rfl) (fun K hK => ?_)
        go_simp
        with_reducible refine (plus9 vx vy MX.out.1 MX.out.2 vp HVV.out.2.2.1 _).mono ?_
        rintro e y4 ⟨rfl, rfl⟩

        refine hK.out _ _ (KS.out _ Q1.out) (fun hHeld2 => ?_)
        clear hK K hHeld1
        try simp only [Act.put, List.getElem_toArray, List.getElem_cons_zero, List.getElem_cons_succ, List.setIfInBounds_toArray, List.set_cons_zero, List.set_cons_succ]
        refine wpAnyK_done (by kernel_rfl) ?_
        simp only [List.drop_succ_cons, List.drop_zero]
        clear hHeld2
        go_wp2_with fail
        go_meet
        exact ⟨rfl, Q1⟩
      case rest =>
      obtain ⟨rfl, A3⟩ := hcut
      obtain ⟨w5, rfl⟩ : ∃ u : World, u = wc := ⟨_, rfl⟩
      clear A2 Q0
      by_cases hgt : vp < vh
      · have hd3 : decide (vp < vh) = true := decide_eq_true hgt
        rw [hd3]
        obtain rfl : b = false := by
          cases b with
          | false => rfl
          | true => have := HLK.out.1 (HB.out.1 rfl k hlt j hjt); omega
        go_wp2_with fail
        go_ret
        exact ⟨rfl, A3.out.below⟩
      · have hd3 : decide (vp < vh) = false := decide_eq_false hgt
        rw [hd3]
        go_wp2_with fail
        go_roundw
        case rel => exact ⟨j + 1, by go_num, by omega, fun u hu => by
          by_cases e : u = j
          · subst e; exact HLK.out.2 (by omega)
          · exact HLJ.out u (by omega), A3⟩
        case measure => simp [intOf]; omega

end Go.Proofs.Ytjjaaknjdmijbaa
