/- The first tick at which a curve reaches a value. By the verifier's side. -/
import Derived.Test.YtjipmkgnndldpaaEDevM
import Derived.Test.YtjipmkgnndldpaaEPwE
import Derived.Test.YtjipmkgnndldpaaERefARefP
import Derived.Deep.LoopGhost
import Derived.Deep.CutBlock
import Derived.BigQuiet
namespace Go.Proofs.Ytjipmkgnndldpaa
open Go.RowKit
set_option linter.unusedSimpArgs false
set_option linter.unusedVariables false

theorem isNaN2_any (x : Int) (w : World) : Calls Try.prog 274 #[.int .i64 x] w fun e w' => e = .returned (.bool false) ∧ w' = w := by
  go_enter Try.func274, Try.ntmps274
  go_wp2_with fail
  go_ret
  exact ⟨by simp, rfl⟩
/-- What a search in a sorted list finds. -/
def GivesSearch (n : Nat) (F : Nat → Int) (v : Int) (w : World) (e : Ending) (w' : World) : Prop :=
  ∃ (k : Nat) (b : Bool), e = .returned (.tuple #[.int .i64 (k : Nat), .bool b]) ∧ (∃ q, w' = w.drewN q) ∧ k ≤ n ∧ (∀ t, t < k → F t < v) ∧ ∀ t, k ≤ t → t < n → v ≤ F t

set_option maxHeartbeats 4000000 in
set_option maxRecDepth 1000000 in
theorem search_any (x : Addr) (n c : Nat) (F : Nat → Int) (v : Int) (hn : n ≤ 1000) (hc2 : n ≤ c) (hc3 : c ≤ 9223372036854775807) (w : World) (hc : ∀ i, i < n → w.cell? (x.add i) = some (.int .i64 (F i))) (hs : ∀ i j, i ≤ j → j < n → F i ≤ F j) :
    Calls Try.prog 212 #[.slice (some x) n c, .int .i64 v] w (GivesSearch n F v w) := by
  have S := Lib.hid hs
  clear hs
  go_enter Try.func212, Try.ntmps212
  go_wp2_with fail
  go_loopg [7, 8] n (fun g s7 s8 wr => ∃ lo hi q : Nat, s7 = .int .i64 lo ∧ s8 = .int .i64 hi ∧ lo ≤ hi ∧ hi ≤ n ∧ hi - lo ≤ g ∧ wr = w.drewN q ∧ Hid ((∀ t, t < lo → F t < v) ∧ ∀ t, hi ≤ t → t < n → v ≤ F t))
  case atStart => exact ⟨0, n, 0, rfl, rfl, Nat.zero_le _, Nat.le_refl _, by omega, rfl, fun t ht => absurd ht (Nat.not_lt_zero _), fun t h1 h2 => by omega⟩
  case round =>
    obtain ⟨lo, hi, q, rfl, rfl, hlh, hin, hg, rfl, I⟩ := hrel
    by_cases hlt : lo < hi
    · obtain ⟨y, hy⟩ : ∃ y, F ((lo + hi) / 2) = y := ⟨_, rfl⟩
      have cm : w.cell? (x.add ((lo + hi) / 2)) = some (.int .i64 y) := by rw [← hy]; exact hc _ (by omega)
      have Y := Lib.hid hy
      clear hy hc
      by_cases hyx : y < v
      · have d1 : decide (y < v) = true := decide_eq_true hyx
        go_wp2_with fail
        refine (less_any _ _ _).mono ?_
        rintro e w' ⟨rfl, rfl⟩
        go_wp2_with fail
        go_roundg (hi - ((lo + hi) / 2 + 1))
        case measure => omega
        case rel =>
          refine ⟨(lo + hi) / 2 + 1, hi, _, by rw [show ((lo : Int) + (hi : Int)) / 2 + 1 = (((lo + hi) / 2 + 1 : Nat) : Int) by omega], rfl, by omega, hin, Nat.le_refl _, rfl, fun t ht => ?_, I.out.2⟩
          have := S.out t ((lo + hi) / 2) (by omega) (by omega)
          rw [Y.out] at this
          omega
      · have d1 : decide (y < v) = false := decide_eq_false hyx
        go_wp2_with fail
        refine (less_any _ _ _).mono ?_
        rintro e w' ⟨rfl, rfl⟩
        go_wp2_with fail
        go_roundg ((lo + hi) / 2 - lo)
        case measure => omega
        case rel =>
          refine ⟨lo, (lo + hi) / 2, _, rfl, by rw [show ((lo : Int) + (hi : Int)) / 2 = (((lo + hi) / 2 : Nat) : Int) by omega], by omega, by omega, Nat.le_refl _, rfl, I.out.1, fun t ht htn => ?_⟩
          have := S.out ((lo + hi) / 2) t ht htn
          rw [Y.out] at this
          omega
    · obtain rfl : hi = lo := by omega
      by_cases hn : hi < n
      · obtain ⟨y, hy⟩ : ∃ y, F hi = y := ⟨_, rfl⟩
        have cm : w.cell? (x.add hi) = some (.int .i64 y) := by rw [← hy]; exact hc _ (by omega)
        clear hc hy
        by_cases hyx : y = v
        · go_wp2_with fail
          go_ret2
          exact ⟨_, _, rfl, ⟨_, rfl⟩, hin, I.out.1, I.out.2⟩
        · go_wp2_with fail
          refine (isNaN2_any _ _).mono ?_
          rintro e w' ⟨rfl, rfl⟩
          go_wp2_with fail
          go_ret2
          exact ⟨_, _, rfl, ⟨_, rfl⟩, hin, I.out.1, I.out.2⟩
      · clear hc
        go_wp2_with fail
        go_ret2
        exact ⟨_, _, rfl, ⟨_, rfl⟩, hin, I.out.1, I.out.2⟩

/-- The first tick at which a value is reached. -/
def GivesFirst (E : Nat → Option Int) (V : Option Int) (w : World) (e : Ending) (w' : World) : Prop :=
  ∃ (o : Bool) (k : Nat), e = .returned (.tuple #[.int .i64 (k : Nat), .bool o]) ∧ Below w.heap.size w w' ∧ FirstP E V o k ∧ (k : Int) ≤ 144115188075855872

set_option maxRecDepth 100000 in
set_option maxHeartbeats 6400000 in
theorem reach_any (a : Option Addr) (n cap : Nat) (zs : List Int) (p : Nat) (inc : Int) (g : Good zs p inc) (V : Option Int) (hV : Asks V) (x : Int) (hx : enc V = x) (w : World) (h : RowZ w a n cap zs) :
    Calls Try.prog 120 #[curV a n cap p inc, .int .i64 x] w (GivesFirst (eC zs p inc) V w) := by
  obtain ⟨W, hW⟩ : ∃ W, w.alloc (.cells #[.slice a n cap, .int .i64 p, .int .i64 inc] 38) = W := ⟨_, rfl⟩
  have hB : Below w.heap.size w W := by rw [← hW]; exact (Below.refl _ _).alloc (Nat.le_refl _) _
  have KF := Lib.hid (show Cur3 W w.heap.size (.slice a n cap) (.int .i64 p) (.int .i64 inc) by rw [← hW]; exact Cur3.new w _ _ _ _)
  have H := Lib.hid (h.under hB)
  have hlen := h.len
  have hfew := g.few
  have hp1 := g.p1
  have hp3 := g.p3
  have hp2 := g.p2
  have hi0 := g.i0
  have hi1 := g.i1
  have hle := h.le
  have hcm := h.cm
  have hvb : 0 ≤ x ∧ x ≤ 4611686018427387904 := by
    rw [← hx]
    cases V with
    | none => exact ⟨by decide, by decide⟩
    | some v => have := hV v rfl; exact ⟨this.1, by show v ≤ _; omega⟩
  have hVi : ∀ v, V = some v → v < infV := fun v hv => by have := (hV v hv).2; unfold infV; omega
  have hn1 : 1 ≤ n := by omega
  have hn4 : n ≤ 400 := by omega
  obtain ⟨q, rfl, _⟩ := h.cell 0 hn1
  have hcell : ∀ i, i < n → W.cell? (q.add i) = some (.int .i64 (zs.getD i 0)) := fun i hi => by
    obtain ⟨y, hy, hc⟩ := H.out.cell i hi
    cases hy; exact hc
  have hmon : ∀ i j, i ≤ j → j < n → zs.getD i 0 ≤ zs.getD j 0 := fun i j hij hj => g.le hij (by omega)
  obtain ⟨j, hj⟩ : ∃ j, n = j + 1 := ⟨n - 1, by omega⟩
  obtain ⟨l, hl⟩ : ∃ l, zs.getD j 0 = l := ⟨_, rfl⟩
  have cl : W.cell? (q.add j) = some (.int .i64 l) := by rw [← hl]; exact hcell j (by omega)
  have q1 : (n : Int) - 1 = (j : Int) := by omega
  have q2 : (j : Int) < (n : Int) := by omega
  have hlb : l = infV ∨ (0 ≤ l ∧ l ≤ 1073741824) := by rw [← hl]; rcases g.val j (by omega) with k | k; exact .inr k; exact .inl k
  have hll : zs.getD (zs.length - 1) 0 = l := by rw [hlen, show n - 1 = j by omega]; exact hl
  have G := Lib.hid g
  have HB := Lib.hid hB
  have HC := Lib.hid (And.intro hcell hmon)
  have HW := Lib.hid hW
  have HX := Lib.hid (And.intro hx hVi)
  have HL := Lib.hid (And.intro hlen (And.intro hll hlb))
  have HJ := Lib.hid (And.intro hj hl)
  obtain ⟨c0, c1, c2, f0, f1, f2⟩ := KF.out
  clear hB h hlen g hcell hmon hl hlb hll hx hVi hW hj
  by_cases hxl : x ≤ l
  · have d1 : decide (x ≤ l) = true := decide_eq_true hxl
    go_enter Try.func120, Try.ntmps120
    go_upto_region 1 with fail
    try rw [HW.out]
    go_wp2_with fail
    refine (search_any q n cap (fun i => zs.getD i 0) x (by omega) hle hcm _ (fun i hi => HC.out.1 i hi) HC.out.2).mono ?_
    rintro e w1 ⟨k, b, rfl, ⟨m, rfl⟩, hk, h1, h2⟩
    have hkn : k < n := by
      apply Nat.lt_of_le_of_ne hk
      intro e
      have e1 := HJ.out.1
      have e2 := h1 j (by omega)
      have e3 := HJ.out.2
      simp only at e2
      omega
    have HF := Lib.hid (show GivesFirst (eC zs p inc) V w (.returned (.tuple #[.int .i64 (k : Nat), .bool true])) (W.drewN m) from ⟨true, k, rfl, HB.out.drewN m, first_head G.out HX.out.2 (by have := HL.out.1; omega) (by rw [HX.out.1]; exact h2 k (Nat.le_refl _) hkn) (fun t ht => by rw [HX.out.1]; exact h1 t ht), by omega⟩)
    clear h1 h2
    go_wp2_with fail
    go_ret2
    exact HF.out
  · have d1 : decide (x ≤ l) = false := decide_eq_false hxl
    by_cases hnone : x = 4611686018427387904 ∨ inc = 0
    · have HF := Lib.hid (show GivesFirst (eC zs p inc) V w (.returned (.tuple #[.int .i64 0, .bool false])) W from ⟨false, 0, rfl, HB.out, first_none G.out HX.out.2 (by rw [HX.out.1, HL.out.2.1]; omega) (by
        rcases hnone with h | h
        · left
          have := HX.out.1
          cases V with
          | none => rfl
          | some v => have h3 := HX.out.2 v rfl; have : enc (some v) = v := rfl; unfold infV at h3; omega
        · exact .inr h), by decide⟩)
      by_cases hxi : x = 4611686018427387904
      · subst hxi
        go_enter Try.func120, Try.ntmps120
        go_upto_region 1 with fail
        try rw [HW.out]
        go_wp2_with fail
        go_ret2
        exact HF.out
      · have d2 : (x == 4611686018427387904) = false := by simpa using hxi
        obtain rfl : inc = 0 := by rcases hnone with h | h; exact absurd h hxi; exact h
        go_enter Try.func120, Try.ntmps120
        go_upto_region 1 with fail
        try rw [HW.out]
        go_wp2_with fail
        go_ret2
        exact HF.out
    · have d2 : (x == 4611686018427387904) = false := by
        have : ¬ x = 4611686018427387904 := fun h => hnone (.inl h)
        simpa using this
      have hic : ¬ inc = 0 := fun h => hnone (.inr h)
      have d3 : (inc == 0) = false := by simpa using hic
      have hl30 : 0 ≤ l ∧ l ≤ 1073741824 := by
        rcases HL.out.2.2 with h | h
        · have := hvb.2; unfold infV at h; omega
        · exact h
      have hvs : V = some x ∧ x ≤ 1125899906842624 := by
        have h1 := HX.out.1
        cases V with
        | none => exact absurd h1.symm (fun h => hnone (.inl h))
        | some v => cases h1; exact ⟨rfl, (hV _ rfl).2⟩
      have hx50 := hvs.2
      have HVS := Lib.hid hvs.1
      obtain ⟨k, hk⟩ : ∃ k : Nat, ((k : Int) = (x - l - 1) / inc) := ⟨((x - l - 1) / inc).toNat, by
        have : 0 ≤ (x - l - 1) / inc := Int.ediv_nonneg (by omega) hi0
        omega⟩
      have hki : (k : Int) * inc ≤ x - l - 1 ∧ x - l - 1 < ((k : Int) + 1) * inc := by
        rw [hk]
        exact ⟨Int.ediv_mul_le _ hic, Int.lt_ediv_add_one_mul_self _ (by omega)⟩
      have hkx : (k : Int) ≤ x := by
        have : (k : Int) * 1 ≤ (k : Int) * inc := Int.mul_le_mul_of_nonneg_left (by omega) (by omega)
        omega
      have hq5 : (x - l - 1) / inc = (k : Int) := hk.symm
      obtain ⟨k1, hk1⟩ : ∃ k1 : Nat, k1 = k + 1 := ⟨_, rfl⟩
      have hq6 : (k : Int) + 1 = (k1 : Int) := by omega
      obtain ⟨y1, hy1⟩ : ∃ y1, (k1 : Int) * inc = y1 := ⟨_, rfl⟩
      have hy1b : 0 ≤ y1 ∧ y1 ≤ x + 1073741824 := by
        rw [← hy1, ← hq6, Int.add_mul]
        have := Int.mul_nonneg (Int.natCast_nonneg k) hi0
        omega
      have hy1w : IntKind.i64.wrap y1 = y1 := IntWalk.i64_in _ ⟨by omega, by omega⟩
      obtain ⟨y2, hy2⟩ : ∃ y2, x - y1 = y2 := ⟨_, rfl⟩
      have hy2w : IntKind.i64.wrap y2 = y2 := IntWalk.i64_in _ ⟨by omega, by omega⟩
      obtain ⟨s, hs⟩ : ∃ s : Nat, n - p = s := ⟨_, rfl⟩
      have hpn : p ≤ n := by have := HL.out.1; omega
      have hsi : (n : Int) - (p : Int) = (s : Int) := by omega
      have hsw : IntKind.i64.wrap (s : Int) = (s : Int) := IntWalk.i64_in _ ⟨by omega, by omega⟩
      have hsn : (s : Int) ≤ (n : Int) := by omega
      have hcs : ¬ cap = s := by omega
      have hns : n - s = p := by omega
      have HK := Lib.hid (And.intro (And.intro hk1 hki) (And.intro (And.intro hy1 hy2) hs))
      have hxl2 : ¬ x ≤ l := hxl
      clear hnone hvs hV hk hki hk1 hs
      go_enter Try.func120, Try.ntmps120
      go_upto_region 1 with fail
      try rw [HW.out]
      go_upto_region 9 with fail
      clear c0 c1 c2 f0 f1 f2
      have HQ := Lib.hid (show (fun u => u.cell? ⟨w.heap.size, 0, none⟩ = some (.slice (some q) n cap) ∧ u.cell? ⟨w.heap.size, 1, none⟩ = some (.int .i64 p) ∧ u.cell? ⟨w.heap.size, 2, none⟩ = some (.int .i64 inc) ∧ Hid (RowZ u (some q) n cap zs ∧ Below w.heap.size w u)) W.drew from ⟨(KF.out.drewN 1).c0, (KF.out.drewN 1).c1, (KF.out.drewN 1).c2, ⟨H.out.drewN 1, HB.out.trans (Below.refl _ _).drew⟩⟩)
      have HS1 := Lib.hid (show (∀ i, i < p → W.drew.cell? ((q.add s).add i) = some (.int .i64 (zs.getD (s + i) 0))) ∧ (∀ i j, i ≤ j → j < p → zs.getD (s + i) 0 ≤ zs.getD (s + j) 0) from by
        have := HK.out.2.2
        refine ⟨fun i hi => ?_, fun i j hij hj => HC.out.2 _ _ (by omega) (by omega)⟩
        rw [Addr.add_add]
        exact HC.out.1 (s + i) (by omega))
      refine wp_region_keeps (fun u => u.cell? ⟨w.heap.size, 0, none⟩ = some (.slice (some q) n cap) ∧ u.cell? ⟨w.heap.size, 1, none⟩ = some (.int .i64 p) ∧ u.cell? ⟨w.heap.size, 2, none⟩ = some (.int .i64 inc) ∧ Hid (RowZ u (some q) n cap zs ∧ Below w.heap.size w u)) 18 1 (by kernel_rfl) (by kernel_rfl) HQ.out (fun hHeld0 => ?_)
      refine wpAnyK_take (i := 0) (v := ?_) rfl (by kernel_rfl) (fun _ _ _ h => h) (Or.inl ⟨by rfl, ?_⟩) (by assumption) ?_
      rotate_left
      · (intro w hSw; (try dsimp only at hSw); go_simp; try with_reducible rfl)
      try simp only [Act.put, List.getElem_toArray, List.getElem_cons_zero, List.getElem_cons_succ, List.setIfInBounds_toArray, List.set_cons_zero, List.set_cons_succ]
      refine wpAnyK_take (i := 1) (v := ?_) rfl (by kernel_rfl) (fun _ _ _ h => h) (Or.inl ⟨by rfl, ?_⟩) (by assumption) ?_
      rotate_left
      · (intro w hSw; (try dsimp only at hSw); go_simp; try with_reducible rfl)
      try simp only [Act.put, List.getElem_toArray, List.getElem_cons_zero, List.getElem_cons_succ, List.setIfInBounds_toArray, List.set_cons_zero, List.set_cons_succ]
      refine wpAnyK_take (i := 2) (v := ?_) rfl (by kernel_rfl) (fun _ _ _ h => h) (Or.inl ⟨by rfl, ?_⟩) (by assumption) ?_
      rotate_left
      · (intro w hSw; (try dsimp only at hSw); go_simp; try with_reducible rfl)
      try simp only [Act.put, List.getElem_toArray, List.getElem_cons_zero, List.getElem_cons_succ, List.setIfInBounds_toArray, List.set_cons_zero, List.set_cons_succ]
      refine wpAnyK_take (i := 3) (v := ?_) rfl (by kernel_rfl) (fun _ _ _ h => h) (Or.inl ⟨by rfl, ?_⟩) (by assumption) ?_
      rotate_left
      · (intro w hSw; (try dsimp only at hSw); go_simp; try with_reducible rfl)
      try simp only [Act.put, List.getElem_toArray, List.getElem_cons_zero, List.getElem_cons_succ, List.setIfInBounds_toArray, List.set_cons_zero, List.set_cons_succ]
      refine wpAnyK_take (i := 4) (v := ?_) rfl (by kernel_rfl) (fun _ _ _ h => h) (Or.inl ⟨by rfl, ?_⟩) (by assumption) ?_
      rotate_left
      · (intro w hSw; (try dsimp only at hSw); go_simp; try with_reducible rfl)
      try simp only [Act.put, List.getElem_toArray, List.getElem_cons_zero, List.getElem_cons_succ, List.setIfInBounds_toArray, List.set_cons_zero, List.set_cons_succ]
      refine wpAnyK_take (i := 5) (v := ?_) rfl (by kernel_rfl) (fun _ _ _ h => h) (Or.inl ⟨by rfl, ?_⟩) (by assumption) ?_
      rotate_left
      · (intro w hSw; (try dsimp only at hSw); go_simp; try with_reducible rfl)
      try simp only [Act.put, List.getElem_toArray, List.getElem_cons_zero, List.getElem_cons_succ, List.setIfInBounds_toArray, List.set_cons_zero, List.set_cons_succ]
      refine wpAnyK_take (i := 6) (v := ?_) rfl (by kernel_rfl) (fun _ _ _ h => h) (Or.inl ⟨by rfl, ?_⟩) (by assumption) ?_
      rotate_left
      · (intro w hSw; (try dsimp only at hSw); go_simp; try with_reducible rfl)
      try simp only [Act.put, List.getElem_toArray, List.getElem_cons_zero, List.getElem_cons_succ, List.setIfInBounds_toArray, List.set_cons_zero, List.set_cons_succ]
      refine wpAnyK_take (i := 7) (v := ?_) rfl (by kernel_rfl) (fun _ _ _ h => h) (Or.inl ⟨by rfl, ?_⟩) (by assumption) ?_
      rotate_left
      · (intro w hSw; (try dsimp only at hSw); go_simp; try with_reducible rfl)
      try simp only [Act.put, List.getElem_toArray, List.getElem_cons_zero, List.getElem_cons_succ, List.setIfInBounds_toArray, List.set_cons_zero, List.set_cons_succ]
      refine wpAnyK_take (i := 8) (v := ?_) rfl (by kernel_rfl) (fun _ _ _ h => h) (Or.inl ⟨by rfl, ?_⟩) (by assumption) ?_
      rotate_left
      · (intro w hSw; (try dsimp only at hSw); go_simp; try with_reducible rfl)
      try simp only [Act.put, List.getElem_toArray, List.getElem_cons_zero, List.getElem_cons_succ, List.setIfInBounds_toArray, List.set_cons_zero, List.set_cons_succ]
      refine wpAnyK_take (i := 9) (v := ?_) rfl (by kernel_rfl) (fun _ _ _ h => h) (Or.inl ⟨by rfl, ?_⟩) (by assumption) ?_
      rotate_left
      · (intro w hSw; (try dsimp only at hSw); go_simp; try with_reducible rfl)
      try simp only [Act.put, List.getElem_toArray, List.getElem_cons_zero, List.getElem_cons_succ, List.setIfInBounds_toArray, List.set_cons_zero, List.set_cons_succ]
      refine wpAnyK_take (i := 10) (v := ?_) rfl (by kernel_rfl) (fun _ _ _ h => h) (Or.inl ⟨by rfl, ?_⟩) (by assumption) ?_
      rotate_left
      · (intro w hSw; (try dsimp only at hSw); go_simp; try with_reducible rfl)
      try simp only [Act.put, List.getElem_toArray, List.getElem_cons_zero, List.getElem_cons_succ, List.setIfInBounds_toArray, List.set_cons_zero, List.set_cons_succ]
      refine wpAnyK_take (i := 11) (v := ?_) rfl (by kernel_rfl) (fun _ _ _ h => h) (Or.inl ⟨by rfl, ?_⟩) (by assumption) ?_
      rotate_left
      · (intro w hSw; (try dsimp only at hSw); go_simp; try with_reducible rfl)
      try simp only [Act.put, List.getElem_toArray, List.getElem_cons_zero, List.getElem_cons_succ, List.setIfInBounds_toArray, List.set_cons_zero, List.set_cons_succ]
      refine wpAnyK_take (i := 12) (v := ?_) rfl (by kernel_rfl) (fun _ _ _ h => h) (Or.inl ⟨by rfl, ?_⟩) (by assumption) ?_
      rotate_left
      · (intro w hSw; (try dsimp only at hSw); go_simp; try with_reducible rfl)
      try simp only [Act.put, List.getElem_toArray, List.getElem_cons_zero, List.getElem_cons_succ, List.setIfInBounds_toArray, List.set_cons_zero, List.set_cons_succ]
      refine wpAnyK_step (i := 13) rfl (by kernel_rfl) (fun K hK => ?_)
      go_simp
      with_reducible refine (search_any (q.add s) p (cap - s) (fun i => zs.getD (s + i) 0) y2 (by omega) (by omega) (by omega) _ HS1.out.1 HS1.out.2).mono ?_
      rintro e u9 ⟨kc, bo, rfl, hdr, hkc, hc1, hc2⟩
      have HE := Lib.hid (And.intro hkc (And.intro hc1 hc2))
      have HM := Lib.hid (show (fun u => u.cell? ⟨w.heap.size, 0, none⟩ = some (.slice (some q) n cap) ∧ u.cell? ⟨w.heap.size, 1, none⟩ = some (.int .i64 p) ∧ u.cell? ⟨w.heap.size, 2, none⟩ = some (.int .i64 inc) ∧ Hid (RowZ u (some q) n cap zs ∧ Below w.heap.size w u)) u9 from by
        obtain ⟨m, rfl⟩ := hdr
        exact ⟨HQ.out.1, HQ.out.2.1, HQ.out.2.2.1, ⟨HQ.out.2.2.2.out.1.drewN m, HQ.out.2.2.2.out.2.drewN m⟩⟩)
      clear hdr hkc hc1 hc2
      refine hK.out _ _ HM.out (fun hHeld1 => ?_)
      clear hK K hHeld0
      try simp only [Act.put, List.getElem_toArray, List.getElem_cons_zero, List.getElem_cons_succ, List.setIfInBounds_toArray, List.set_cons_zero, List.set_cons_succ]
      refine wpAnyK_take (i := 14) (v := ?_) rfl (by kernel_rfl) (fun _ _ _ h => h) (Or.inl ⟨by rfl, ?_⟩) (by assumption) ?_
      rotate_left
      · (intro w hSw; (try dsimp only at hSw); go_simp; try with_reducible rfl)
      try simp only [Act.put, List.getElem_toArray, List.getElem_cons_zero, List.getElem_cons_succ, List.setIfInBounds_toArray, List.set_cons_zero, List.set_cons_succ]
      refine wpAnyK_take (i := 15) (v := ?_) rfl (by kernel_rfl) (fun _ _ _ h => h) (Or.inl ⟨by rfl, ?_⟩) (by assumption) ?_
      rotate_left
      · (intro w hSw; (try dsimp only at hSw); go_simp; try with_reducible rfl)
      try simp only [Act.put, List.getElem_toArray, List.getElem_cons_zero, List.getElem_cons_succ, List.setIfInBounds_toArray, List.set_cons_zero, List.set_cons_succ]
      refine wpAnyK_take (i := 16) (v := ?_) rfl (by kernel_rfl) (fun _ _ _ h => h) (Or.inl ⟨by rfl, ?_⟩) (by assumption) ?_
      rotate_left
      · (intro w hSw; (try dsimp only at hSw); go_simp; try with_reducible rfl)
      try simp only [Act.put, List.getElem_toArray, List.getElem_cons_zero, List.getElem_cons_succ, List.setIfInBounds_toArray, List.set_cons_zero, List.set_cons_succ]
      refine wpAnyK_take (i := 17) (v := ?_) rfl (by kernel_rfl) (fun _ _ _ h => h) (Or.inl ⟨by rfl, ?_⟩) (by assumption) ?_
      rotate_left
      · (intro w hSw; (try dsimp only at hSw); go_simp; try with_reducible rfl)
      try simp only [Act.put, List.getElem_toArray, List.getElem_cons_zero, List.getElem_cons_succ, List.setIfInBounds_toArray, List.set_cons_zero, List.set_cons_succ]
      refine wpAnyK_done (by kernel_rfl) ?_
      simp only [List.drop_succ_cons, List.drop_zero]
      clear hHeld1
      obtain ⟨c0, c1, c2, _⟩ := HM.out
      obtain ⟨P1, hP1⟩ : ∃ P1 : Nat, k1 * p = P1 := ⟨_, rfl⟩
      have hP1i : (k1 : Int) * (p : Int) = (P1 : Int) := by rw [← hP1]; exact (Int.natCast_mul _ _).symm
      have hk1 := HK.out.1.1
      have hP1b : (P1 : Int) ≤ 135107988821115000 := by
        rw [← hP1i]
        have e1 : (k1 : Int) * (p : Int) ≤ (k1 : Int) * 120 := Int.mul_le_mul_of_nonneg_left (by omega) (by omega)
        omega
      have hkp := HE.out.1
      obtain ⟨R, hR⟩ : ∃ R : Nat, s + kc + P1 = R := ⟨_, rfl⟩
      have hRi : (s : Int) + (kc : Int) + (P1 : Int) = (R : Int) := by omega
      have hPw : IntKind.i64.wrap (P1 : Int) = (P1 : Int) := IntWalk.i64_in _ ⟨by omega, by omega⟩
      have hRw : IntKind.i64.wrap (R : Int) = (R : Int) := IntWalk.i64_in _ ⟨by omega, by omega⟩
      have HF := Lib.hid (show GivesFirst (eC zs p inc) V w (.returned (.tuple #[.int .i64 (R : Nat), .bool true])) u9 from by
        obtain ⟨hk1, hki⟩ := HK.out.1
        obtain ⟨⟨hy1, hy2⟩, hs⟩ := HK.out.2
        obtain ⟨hln, hlz, _⟩ := HL.out
        obtain ⟨hjn, hjl⟩ := HJ.out
        have hinf : ¬ InfC zs := fun hi => by
          have : zs.getD (zs.length - 1) 0 = infV := hi
          unfold infV at this; omega
        have hxk : x - (k1 : Int) * inc ≤ l := by
          have : (k1 : Int) = (k : Int) + 1 := by omega
          rw [this]; omega
        have hkc : kc < p := by
          apply Nat.lt_of_le_of_ne hkp
          intro e
          have e1 := HE.out.2.1 (p - 1) (by omega)
          simp only at e1
          rw [show s + (p - 1) = j by omega, hjl] at e1
          omega
        have ht := first_tail G.out (v := x) hinf (k := k1) (c := kc) (by omega) (by rw [hlz, show (k1 : Int) - 1 = (k : Int) by omega]; omega) hkc (by
          have := HE.out.2.2 kc (Nat.le_refl _) hkc
          simp only at this
          rw [show zs.length - p = s by omega, hy1]; omega) (fun i hi => by
          have := HE.out.2.1 i hi
          simp only at this
          rw [show zs.length - p = s by omega, hy1]; omega)
        rw [show zs.length - p = s by omega, hP1, hR] at ht
        exact ⟨true, R, rfl, HM.out.2.2.2.out.2, HVS.out ▸ ht, by omega⟩)
      clear hP1 hR HE HK hk1 hns hcs hxl hxl2
      go_wp2_with fail
      go_ret2
      exact HF.out

end Go.Proofs.Ytjipmkgnndldpaa
