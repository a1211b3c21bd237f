/- Contracts: the document's Finite, Start, Slope, Equal; Start and Equal at curves that are not valid. By the verifier's side. -/
import Derived.Test.YtdakadgfnlpogaaRefN
import Derived.Test.YtdakadgfnlpogaaFrS
import Derived.Test.YtdakadgfnlpogaaKeepS
namespace Go.Proofs.Ytdakadgfnlpogaa
open Go.RowKit
set_option linter.unusedSimpArgs false

set_option maxHeartbeats 800000 in
theorem rfinite_any (a : Option Addr) (n cap : Nat) (zs : List Int) (p inc : Int) (hp : In64 p) (hi : In64 inc) (b : Bool) (hb : finB zs p inc = b) (w : World) (h : RowZ w a n cap zs) :
    Calls Try.prog 21 #[curV a n cap p inc] w (Says (.bool b) w) := by
  have hB : Below w.heap.size w (w.alloc (.cells #[.slice a n cap, .int .i64 p, .int .i64 inc] 24)) := (Below.refl _ _).alloc (Nat.le_refl _) _
  have HBl := Lib.hid hB
  have H := Lib.hid (h.under hB)
  have HL := Lib.hid h.len
  have KF := Lib.hid (Cur3.new w (.slice a n cap) (.int .i64 p) (.int .i64 inc) 24)
  cases hok : okC zs p inc with
  | false =>
    obtain rfl : b = false := hb.symm.trans (finB_bad hok)
    have HO := Lib.hid hok
    clear h hB hb hok
    go_enter Try.func21, Try.ntmps21
    go_wp2_with fail
    refine (rvalid_any a n cap zs p inc hp hi false HO.out _ H.out).mono ?_
    rintro e w1 ⟨rfl, hb⟩
    go_wp2_with fail
    go_ret
    exact ⟨rfl, HBl.out.trans (hb.mono HBl.out.size)⟩
  | true =>
    obtain ⟨q, hq, g⟩ := okC_pos hok
    have hn1 : 1 ≤ n := by have := g.p1; have := g.p3; have := HL.out; omega
    have hcm := h.sm
    obtain ⟨j, hj⟩ : ∃ j, n = j + 1 := ⟨n - 1, by omega⟩
    obtain ⟨l, hl⟩ : ∃ l, zs.getD j 0 = l := ⟨_, rfl⟩
    have hbl : b = !decide (l = infV) := by rw [← hb, ← hl]; unfold finB; rw [hok, HL.out, show n - 1 = j by omega]; rfl
    have HO := Lib.hid hok
    have q1 : (n : Int) - 1 = (j : Int) := by omega
    have q2 : (j : Int) < (n : Int) := by omega
    have HJ := Lib.hid (And.intro hj hl)
    clear h hB hb hok hq g hj hl
    by_cases hf : l = infV
    · obtain rfl : b = false := by rw [hbl, decide_eq_true hf]; rfl
      have ht : (l != 4611686018427387904) = false := by simpa using hf
      clear hbl hf
      go_enter Try.func21, Try.ntmps21
      go_wp2_with fail
      refine (rvalid_any a n cap zs p inc hp hi true HO.out _ H.out).mono ?_
      rintro e w1 ⟨rfl, hb⟩
      obtain ⟨c0, c1, c2, f0, f1, f2⟩ := KF.out.below hb
      have HB1 := Lib.hid (HBl.out.trans (hb.mono HBl.out.size))
      obtain ⟨x, rfl, cl⟩ := (H.out.under hb).cell j (by omega)
      rw [HJ.out.2] at cl
      clear hb
      go_wp2_with fail
      go_ret
      exact ⟨rfl, HB1.out⟩
    · obtain rfl : b = true := by rw [hbl, decide_eq_false hf]; rfl
      have ht : (l != 4611686018427387904) = true := by simpa using hf
      clear hbl hf
      go_enter Try.func21, Try.ntmps21
      go_wp2_with fail
      refine (rvalid_any a n cap zs p inc hp hi true HO.out _ H.out).mono ?_
      rintro e w1 ⟨rfl, hb⟩
      obtain ⟨c0, c1, c2, f0, f1, f2⟩ := KF.out.below hb
      have HB1 := Lib.hid (HBl.out.trans (hb.mono HBl.out.size))
      obtain ⟨x, rfl, cl⟩ := (H.out.under hb).cell j (by omega)
      rw [HJ.out.2] at cl
      clear hb
      go_wp2_with fail
      go_ret
      exact ⟨rfl, HB1.out⟩

set_option maxHeartbeats 800000 in
theorem rslope_no (a : Option Addr) (n cap : Nat) (zs : List Int) (p inc : Int) (hp : In64 p) (hi : In64 inc) (hb : finB zs p inc = false) (w : World) (h : RowZ w a n cap zs) :
    Calls Try.prog 16 #[curV a n cap p inc] w (Slopes 0 0 false w) := by
  have hB : Below w.heap.size w ((w.alloc (.cells #[.slice a n cap, .int .i64 p, .int .i64 inc] 24)).alloc (.cells #[.int .i64 0, .int .i64 0] 36)) := ((Below.refl _ _).alloc (Nat.le_refl _) _).alloc (by simp) _
  have HBl := Lib.hid hB
  have H := Lib.hid (h.under hB)
  have HO := Lib.hid hb
  clear h hB hb
  go_enter Try.func16, Try.ntmps16
  go_wp2_with fail
  refine (rfinite_any a n cap zs p inc hp hi false HO.out _ H.out).mono ?_
  rintro e w1 ⟨rfl, hb⟩
  obtain ⟨hc, hf⟩ := bcell hb
  have hz : w.heap.size + 1 < w1.heap.size := by have := hb.size; simp at this; omega
  have HB1 := Lib.hid (HBl.out.trans (hb.mono HBl.out.size))
  clear hb
  go_wp2_with fail
  refine bodyPost_ret (v := .tuple #[.agg #[.int .i64 0, .int .i64 0], .bool false]) (by simp [results, Try.results16, go_sem, hc, hf, hz]) rfl ⟨rfl, ?_⟩
  exact ((HB1.out.setCell (p := ⟨w.heap.size + 1, 0, none⟩) (Nat.le_succ _) _).setCell (p := ⟨w.heap.size + 1, 1, none⟩) (Nat.le_succ _) _)

set_option maxHeartbeats 800000 in
theorem rslope_ok (a : Option Addr) (n cap : Nat) (zs : List Int) (p : Nat) (inc : Int) (g : Good zs p inc) (hf : ¬ zs.getD (zs.length - 1) 0 = infV) (x y : Int) (hr : newF inc p = (x, y, 0)) (w : World) (h : RowZ w a n cap zs) :
    Calls Try.prog 16 #[curV a n cap p inc] w (Slopes x y true w) := by
  have hB : Below w.heap.size w ((w.alloc (.cells #[.slice a n cap, .int .i64 p, .int .i64 inc] 24)).alloc (.cells #[.int .i64 0, .int .i64 0] 36)) := ((Below.refl _ _).alloc (Nat.le_refl _) _).alloc (by simp) _
  have HBl := Lib.hid hB
  have H := Lib.hid (h.under hB)
  have a1 := g.p2; have a2 := g.i0; have a3 := g.i1
  have HO := Lib.hid (finB_fin ((okC_iff zs p inc).2 g) hf)
  have HR := Lib.hid hr
  have KF := Lib.hid ((Cur3.new w (.slice a n cap) (.int .i64 p) (.int .i64 inc) 24).alloc (.cells #[.int .i64 0, .int .i64 0] 36))
  clear h hB hr g hf
  go_enter Try.func16, Try.ntmps16
  go_wp2_with fail
  refine (rfinite_any a n cap zs p inc ⟨by omega, by omega⟩ ⟨by omega, by omega⟩ true HO.out _ H.out).mono ?_
  rintro e w1 ⟨rfl, hb⟩
  have HC := Lib.hid (bcell hb)
  have hz : w.heap.size + 1 < w1.heap.size := by have := hb.size; simp at this; omega
  have HB1 := Lib.hid (HBl.out.trans (hb.mono HBl.out.size))
  obtain ⟨c0, c1, c2, f0, f1, f2⟩ := KF.out.below hb
  clear hb
  go_wp2_with fail
  refine (rnew_all inc p ⟨by omega, by omega⟩ ⟨by omega, by omega⟩ _).mono ?_
  rintro e w2 ⟨rfl, hb2⟩
  rw [HR.out]
  have HB2 := Lib.hid (HB1.out.trans (hb2.mono HB1.out.size))
  obtain ⟨hc, hf⟩ := HC.out
  obtain ⟨hc2, hf2⟩ := bcell hb2
  have hz2 : w.heap.size + 1 < w2.heap.size := by have := hb2.size; omega
  clear hb2 c0 c1 c2 f0 f1 f2
  go_wp2_with fail
  refine bodyPost_ret (v := .tuple #[.agg #[.int .i64 x, .int .i64 y], .bool true]) (by simp [results, Try.results16, go_sem, hc, hf, hc2, hf2, hz, hz2]) rfl ⟨rfl, ?_⟩
  exact ((HB2.out.setCell (p := ⟨w.heap.size + 1, 0, none⟩) (Nat.le_succ _) _).setCell (p := ⟨w.heap.size + 1, 1, none⟩) (Nat.le_succ _) _).alloc (by have := HB2.out.size; simpa using this) _

set_option maxRecDepth 100000 in
set_option maxHeartbeats 3200000 in
theorem requal_ok (a : Option Addr) (n cap : Nat) (zs : List Int) (p : Nat) (inc : Int) (g : Good zs p inc) (a2 : Option Addr) (n2 cap2 : Nat) (ys : List Int) (q : Nat) (jnc : Int) (g2 : Good ys q jnc) (w : World) (h : RowZ w a n cap zs) (h2 : RowZ w a2 n2 cap2 ys) :
    Calls Try.prog 30 #[curV a n cap p inc, curV a2 n2 cap2 q jnc] w (EqSays (atC zs p inc) (atC ys q jnc) w) := by
  have hB : Below w.heap.size w ((w.alloc (.cells #[.slice a n cap, .int .i64 p, .int .i64 inc] 24)).alloc (.cells #[.slice a2 n2 cap2, .int .i64 q, .int .i64 jnc] 24)) :=
    ((Below.refl _ _).alloc (Nat.le_refl _) _).alloc (by simp) _
  have HBl := Lib.hid hB
  have T0 := Lib.hid (show Two ((w.alloc (.cells #[.slice a n cap, .int .i64 p, .int .i64 inc] 24)).alloc (.cells #[.slice a2 n2 cap2, .int .i64 q, .int .i64 jnc] 24)) w.heap.size a n cap p inc zs (w.heap.size + 1) a2 n2 cap2 q jnc ys from
    ⟨(Cur3.new w (.slice a n cap) (.int .i64 p) (.int .i64 inc) 24).alloc _, h.under hB, Cur3.new2 w _ _ _ _ _, h2.under hB⟩)
  have G := Lib.hid g
  have G2 := Lib.hid g2
  have V1 := Lib.hid ((okC_iff zs p inc).2 g)
  have V2 := Lib.hid ((okC_iff ys q jnc).2 g2)
  have a1 := g.p2; have a2' := g.i0; have a3 := g.i1
  have b1 := g2.p2; have b2 := g2.i0; have b3 := g2.i1
  clear h h2 hB g g2
  go_enter Try.func30, Try.ntmps30
  go_wp2_with fail
  generalize (w.alloc (.cells #[.slice a n cap, .int .i64 p, .int .i64 inc] 24)).alloc (.cells #[.slice a2 n2 cap2, .int .i64 q, .int .i64 jnc] 24) = w0 at HBl T0 ⊢
  go_region_held3 (fun w' => w'.cell? ⟨w.heap.size, 0, none⟩ = some (.slice a n cap) ∧ w'.cell? ⟨w.heap.size, 1, none⟩ = some (.int .i64 p) ∧ w'.cell? ⟨w.heap.size, 2, none⟩ = some (.int .i64 inc) ∧
      w'.cell? ⟨w.heap.size + 1, 0, none⟩ = some (.slice a2 n2 cap2) ∧ w'.cell? ⟨w.heap.size + 1, 1, none⟩ = some (.int .i64 q) ∧ w'.cell? ⟨w.heap.size + 1, 2, none⟩ = some (.int .i64 jnc) ∧ Hid (Below w0.heap.size w0 w' ∧ Two w' w.heap.size a n cap p inc zs (w.heap.size + 1) a2 n2 cap2 q jnc ys))
    (first | with_reducible exact two6_drew T0.out | with_reducible exact two6_call (by assumption) hbx)
    (first
      | (go_at_call 19; ((with_reducible refine (rvalid_any a n cap zs p inc ⟨by omega, by omega⟩ ⟨by omega, by omega⟩ true V1.out _ (two6_of (by assumption)).rx).mono ?_); rintro e w1 ⟨rfl, hbx⟩))
      | (go_at_call 19; ((with_reducible refine (rvalid_any a2 n2 cap2 ys q jnc ⟨by omega, by omega⟩ ⟨by omega, by omega⟩ true V2.out _ (two6_of (by assumption)).ry).mono ?_); rintro e w2 ⟨rfl, hbx⟩))
      | (go_at_call 37; ((with_reducible refine (rleast_any a n cap zs p inc G.out _ (two6_of (by assumption)).rx).mono ?_); rintro e w3 ⟨a3, n3, cap3, zs3, p3, inc3, rfl, hbx, hr3, hn3, _⟩))
      | (go_at_call 37; ((with_reducible refine (rleast_any a2 n2 cap2 ys q jnc G2.out _ (two6_of (by assumption)).ry).mono ?_); rintro e w4 ⟨a4, n4, cap4, zs4, p4, inc4, rfl, hbx, hr4, hn4, _⟩; have hr3' := hr3.under hbx))
      | (go_at_call 17; refine (rsame_any a3 n3 cap3 zs3 p3 inc3 a4 n4 cap4 zs4 p4 inc4 _ rfl _ hr3' hr4).mono ?_; rintro e w5 ⟨rfl, hbx⟩))
  all_goals go_wp2_with fail
  have hT : Two6 w0 w.heap.size a n cap p inc zs (w.heap.size + 1) a2 n2 cap2 q jnc ys w5 := by assumption
  go_ret
  exact ⟨_, norm_same G.out hn3 G2.out hn4, rfl, HBl.out.trans ((two6_below hT).mono HBl.out.size)⟩

set_option maxRecDepth 100000 in
set_option maxHeartbeats 800000 in
theorem equal_bad1 (a : Option Addr) (n cap : Nat) (zs : List Int) (p inc : Int) (hp : In64 p) (hi : In64 inc) (hv1 : okC zs p inc = false) (a2 : Option Addr) (n2 cap2 : Nat) (ys : List Int) (q jnc : Int) (hq : In64 q) (hj : In64 jnc) (w : World) (h : RowZ w a n cap zs) (h2 : RowZ w a2 n2 cap2 ys) :
    Calls Try.prog 29 #[curV a n cap p inc, curV a2 n2 cap2 q jnc] w (Says (.bool false) w) := by
  have hB : Below w.heap.size w ((w.alloc (.cells #[.slice a n cap, .int .i64 p, .int .i64 inc] 24)).alloc (.cells #[.slice a2 n2 cap2, .int .i64 q, .int .i64 jnc] 24)) :=
    ((Below.refl _ _).alloc (Nat.le_refl _) _).alloc (by simp) _
  have HBl := Lib.hid hB
  have R1 := Lib.hid (h.under hB)
  have R2 := Lib.hid (h2.under hB)
  have B1 := Lib.hid ((Cur3.new w (.slice a n cap) (.int .i64 p) (.int .i64 inc) 24).alloc (.cells #[.slice a2 n2 cap2, .int .i64 q, .int .i64 jnc] 24))
  have B2 := Lib.hid (Cur3.new2 w (.slice a2 n2 cap2) (.int .i64 q) (.int .i64 jnc) 24 (.cells #[.slice a n cap, .int .i64 p, .int .i64 inc] 24))
  have V1 := Lib.hid hv1
  have _hq := hq; have _hj := hj
  clear h h2 hB hv1 
  go_enter Try.func29, Try.ntmps29
  go_wp2_with fail
  generalize (w.alloc (.cells #[.slice a n cap, .int .i64 p, .int .i64 inc] 24)).alloc (.cells #[.slice a2 n2 cap2, .int .i64 q, .int .i64 jnc] 24) = w0 at HBl R1 R2 B1 B2 ⊢
  have KS := Lib.hid (fun (u : World) (hb : Below w0.heap.size w0 u) => (show u.cell? ⟨w.heap.size, 0, none⟩ = some (.slice a n cap) ∧ u.cell? ⟨w.heap.size, 1, none⟩ = some (.int .i64 p) ∧ u.cell? ⟨w.heap.size, 2, none⟩ = some (.int .i64 inc) ∧ u.cell? ⟨w.heap.size + 1, 0, none⟩ = some (.slice a2 n2 cap2) ∧ u.cell? ⟨w.heap.size + 1, 1, none⟩ = some (.int .i64 q) ∧ u.cell? ⟨w.heap.size + 1, 2, none⟩ = some (.int .i64 jnc) from
    ⟨(B1.out.below hb).c0, (B1.out.below hb).c1, (B1.out.below hb).c2, (B2.out.below hb).c0, (B2.out.below hb).c1, (B2.out.below hb).c2⟩))
  have D0 := Lib.hid ((Below.refl _ _).drew : Below w0.heap.size w0 w0.drew)
  refine wp_region_keeps (fun u => u.cell? ⟨w.heap.size, 0, none⟩ = some (.slice a n cap) ∧ u.cell? ⟨w.heap.size, 1, none⟩ = some (.int .i64 p) ∧ u.cell? ⟨w.heap.size, 2, none⟩ = some (.int .i64 inc) ∧ u.cell? ⟨w.heap.size + 1, 0, none⟩ = some (.slice a2 n2 cap2) ∧ u.cell? ⟨w.heap.size + 1, 1, none⟩ = some (.int .i64 q) ∧ u.cell? ⟨w.heap.size + 1, 2, none⟩ = some (.int .i64 jnc)) 12 2 (by kernel_rfl) (by kernel_rfl) (KS.out _ D0.out) (fun hHeld => ?_)
  refine wpAnyK_take (i := 0) (v := ?_) rfl (by kernel_rfl) (fun _ _ _ h => h) (Or.inl ⟨by rfl, ?_⟩) (by assumption) ?_
  rotate_left
  · (intro w hSw; (try dsimp only at hSw); go_simp; try with_reducible rfl)
  try simp only [Act.put, List.getElem_toArray, List.getElem_cons_zero, List.getElem_cons_succ, List.setIfInBounds_toArray, List.set_cons_zero, List.set_cons_succ]
  refine wpAnyK_step (i := 1) rfl (by kernel_rfl) (fun K hK => ?_)
  go_simp
  refine (valid_any a n cap zs p inc hp hi false V1.out _ (R1.out.under D0.out)).mono ?_
  rintro e w1 ⟨rfl, hb1⟩
  have D1 := Lib.hid (D0.out.trans (hb1.mono D0.out.size))
  refine hK.out _ _ (KS.out _ D1.out) (fun hHeld2 => ?_)
  clear hK K hHeld hb1
  try simp only [Act.put, List.getElem_toArray, List.getElem_cons_zero, List.getElem_cons_succ, List.setIfInBounds_toArray, List.set_cons_zero, List.set_cons_succ]
  refine wpAnyK_take (i := 2) (v := ?_) rfl (by kernel_rfl) (fun _ _ _ h => h) (Or.inl ⟨by rfl, ?_⟩) (by assumption) ?_
  rotate_left
  · (intro w hSw; (try dsimp only at hSw); go_simp; try with_reducible rfl)
  try simp only [Act.put, List.getElem_toArray, List.getElem_cons_zero, List.getElem_cons_succ, List.setIfInBounds_toArray, List.set_cons_zero, List.set_cons_succ]
  refine wpAnyK_take (i := 3) (v := undef) rfl (by kernel_rfl) (fun _ _ _ h => h) (Or.inr ⟨by rfl, rfl⟩) (by assumption) ?_
  try simp only [Act.put, List.getElem_toArray, List.getElem_cons_zero, List.getElem_cons_succ, List.setIfInBounds_toArray, List.set_cons_zero, List.set_cons_succ]
  refine wpAnyK_take (i := 4) (v := undef) rfl (by kernel_rfl) (fun _ _ _ h => h) (Or.inr ⟨by rfl, rfl⟩) (by assumption) ?_
  try simp only [Act.put, List.getElem_toArray, List.getElem_cons_zero, List.getElem_cons_succ, List.setIfInBounds_toArray, List.set_cons_zero, List.set_cons_succ]
  refine wpAnyK_take (i := 5) (v := ?_) rfl (by kernel_rfl) (fun _ _ _ h => h) (Or.inl ⟨by rfl, ?_⟩) (by assumption) ?_
  rotate_left
  · (intro w hSw; (try dsimp only at hSw); go_simp; try with_reducible rfl)
  try simp only [Act.put, List.getElem_toArray, List.getElem_cons_zero, List.getElem_cons_succ, List.setIfInBounds_toArray, List.set_cons_zero, List.set_cons_succ]
  refine wpAnyK_take (i := 6) (v := ?_) rfl (by kernel_rfl) (fun _ _ _ h => h) (Or.inl ⟨by rfl, ?_⟩) (by assumption) ?_
  rotate_left
  · (intro w hSw; (try dsimp only at hSw); go_simp; try with_reducible rfl)
  try simp only [Act.put, List.getElem_toArray, List.getElem_cons_zero, List.getElem_cons_succ, List.setIfInBounds_toArray, List.set_cons_zero, List.set_cons_succ]
  refine wpAnyK_take (i := 7) (v := undef) rfl (by kernel_rfl) (fun _ _ _ h => h) (Or.inr ⟨by rfl, rfl⟩) (by assumption) ?_
  try simp only [Act.put, List.getElem_toArray, List.getElem_cons_zero, List.getElem_cons_succ, List.setIfInBounds_toArray, List.set_cons_zero, List.set_cons_succ]
  refine wpAnyK_take (i := 8) (v := undef) rfl (by kernel_rfl) (fun _ _ _ h => h) (Or.inr ⟨by rfl, rfl⟩) (by assumption) ?_
  try simp only [Act.put, List.getElem_toArray, List.getElem_cons_zero, List.getElem_cons_succ, List.setIfInBounds_toArray, List.set_cons_zero, List.set_cons_succ]
  refine wpAnyK_take (i := 9) (v := undef) rfl (by kernel_rfl) (fun _ _ _ h => h) (Or.inr ⟨by rfl, rfl⟩) (by assumption) ?_
  try simp only [Act.put, List.getElem_toArray, List.getElem_cons_zero, List.getElem_cons_succ, List.setIfInBounds_toArray, List.set_cons_zero, List.set_cons_succ]
  refine wpAnyK_take (i := 10) (v := undef) rfl (by kernel_rfl) (fun _ _ _ h => h) (Or.inr ⟨by rfl, rfl⟩) (by assumption) ?_
  try simp only [Act.put, List.getElem_toArray, List.getElem_cons_zero, List.getElem_cons_succ, List.setIfInBounds_toArray, List.set_cons_zero, List.set_cons_succ]
  refine wpAnyK_take (i := 11) (v := undef) rfl (by kernel_rfl) (fun _ _ _ h => h) (Or.inr ⟨by rfl, rfl⟩) (by assumption) ?_
  try simp only [Act.put, List.getElem_toArray, List.getElem_cons_zero, List.getElem_cons_succ, List.setIfInBounds_toArray, List.set_cons_zero, List.set_cons_succ]
  refine wpAnyK_done (by kernel_rfl) ?_
  simp only [List.drop_succ_cons, List.drop_zero]
  go_wp2_with fail
  go_ret
  exact ⟨rfl, HBl.out.trans (D1.out.mono HBl.out.size)⟩

set_option maxRecDepth 100000 in
set_option maxHeartbeats 800000 in
theorem equal_bad2 (a : Option Addr) (n cap : Nat) (zs : List Int) (p inc : Int) (hp : In64 p) (hi : In64 inc) (hv1 : okC zs p inc = true) (a2 : Option Addr) (n2 cap2 : Nat) (ys : List Int) (q jnc : Int) (hq : In64 q) (hj : In64 jnc) (hv2 : okC ys q jnc = false) (w : World) (h : RowZ w a n cap zs) (h2 : RowZ w a2 n2 cap2 ys) :
    Calls Try.prog 29 #[curV a n cap p inc, curV a2 n2 cap2 q jnc] w (Says (.bool false) w) := by
  have hB : Below w.heap.size w ((w.alloc (.cells #[.slice a n cap, .int .i64 p, .int .i64 inc] 24)).alloc (.cells #[.slice a2 n2 cap2, .int .i64 q, .int .i64 jnc] 24)) :=
    ((Below.refl _ _).alloc (Nat.le_refl _) _).alloc (by simp) _
  have HBl := Lib.hid hB
  have R1 := Lib.hid (h.under hB)
  have R2 := Lib.hid (h2.under hB)
  have B1 := Lib.hid ((Cur3.new w (.slice a n cap) (.int .i64 p) (.int .i64 inc) 24).alloc (.cells #[.slice a2 n2 cap2, .int .i64 q, .int .i64 jnc] 24))
  have B2 := Lib.hid (Cur3.new2 w (.slice a2 n2 cap2) (.int .i64 q) (.int .i64 jnc) 24 (.cells #[.slice a n cap, .int .i64 p, .int .i64 inc] 24))
  have V1 := Lib.hid hv1
  have V2 := Lib.hid hv2
  clear h h2 hB hv1 hv2
  go_enter Try.func29, Try.ntmps29
  go_wp2_with fail
  generalize (w.alloc (.cells #[.slice a n cap, .int .i64 p, .int .i64 inc] 24)).alloc (.cells #[.slice a2 n2 cap2, .int .i64 q, .int .i64 jnc] 24) = w0 at HBl R1 R2 B1 B2 ⊢
  have KS := Lib.hid (fun (u : World) (hb : Below w0.heap.size w0 u) => (show u.cell? ⟨w.heap.size, 0, none⟩ = some (.slice a n cap) ∧ u.cell? ⟨w.heap.size, 1, none⟩ = some (.int .i64 p) ∧ u.cell? ⟨w.heap.size, 2, none⟩ = some (.int .i64 inc) ∧ u.cell? ⟨w.heap.size + 1, 0, none⟩ = some (.slice a2 n2 cap2) ∧ u.cell? ⟨w.heap.size + 1, 1, none⟩ = some (.int .i64 q) ∧ u.cell? ⟨w.heap.size + 1, 2, none⟩ = some (.int .i64 jnc) from
    ⟨(B1.out.below hb).c0, (B1.out.below hb).c1, (B1.out.below hb).c2, (B2.out.below hb).c0, (B2.out.below hb).c1, (B2.out.below hb).c2⟩))
  have D0 := Lib.hid ((Below.refl _ _).drew : Below w0.heap.size w0 w0.drew)
  refine wp_region_keeps (fun u => u.cell? ⟨w.heap.size, 0, none⟩ = some (.slice a n cap) ∧ u.cell? ⟨w.heap.size, 1, none⟩ = some (.int .i64 p) ∧ u.cell? ⟨w.heap.size, 2, none⟩ = some (.int .i64 inc) ∧ u.cell? ⟨w.heap.size + 1, 0, none⟩ = some (.slice a2 n2 cap2) ∧ u.cell? ⟨w.heap.size + 1, 1, none⟩ = some (.int .i64 q) ∧ u.cell? ⟨w.heap.size + 1, 2, none⟩ = some (.int .i64 jnc)) 12 2 (by kernel_rfl) (by kernel_rfl) (KS.out _ D0.out) (fun hHeld => ?_)
  refine wpAnyK_take (i := 0) (v := ?_) rfl (by kernel_rfl) (fun _ _ _ h => h) (Or.inl ⟨by rfl, ?_⟩) (by assumption) ?_
  rotate_left
  · (intro w hSw; (try dsimp only at hSw); go_simp; try with_reducible rfl)
  try simp only [Act.put, List.getElem_toArray, List.getElem_cons_zero, List.getElem_cons_succ, List.setIfInBounds_toArray, List.set_cons_zero, List.set_cons_succ]
  refine wpAnyK_step (i := 1) rfl (by kernel_rfl) (fun K hK => ?_)
  go_simp
  refine (valid_any a n cap zs p inc hp hi true V1.out _ (R1.out.under D0.out)).mono ?_
  rintro e w1 ⟨rfl, hb1⟩
  have D1 := Lib.hid (D0.out.trans (hb1.mono D0.out.size))
  refine hK.out _ _ (KS.out _ D1.out) (fun hHeld2 => ?_)
  clear hK K hHeld hb1
  try simp only [Act.put, List.getElem_toArray, List.getElem_cons_zero, List.getElem_cons_succ, List.setIfInBounds_toArray, List.set_cons_zero, List.set_cons_succ]
  refine wpAnyK_take (i := 2) (v := ?_) rfl (by kernel_rfl) (fun _ _ _ h => h) (Or.inl ⟨by rfl, ?_⟩) (by assumption) ?_
  rotate_left
  · (intro w hSw; (try dsimp only at hSw); go_simp; try with_reducible rfl)
  try simp only [Act.put, List.getElem_toArray, List.getElem_cons_zero, List.getElem_cons_succ, List.setIfInBounds_toArray, List.set_cons_zero, List.set_cons_succ]
  refine wpAnyK_take (i := 3) (v := ?_) rfl (by kernel_rfl) (fun _ _ _ h => h) (Or.inl ⟨by rfl, ?_⟩) (by assumption) ?_
  rotate_left
  · (intro w hSw; (try dsimp only at hSw); go_simp; try with_reducible rfl)
  try simp only [Act.put, List.getElem_toArray, List.getElem_cons_zero, List.getElem_cons_succ, List.setIfInBounds_toArray, List.set_cons_zero, List.set_cons_succ]
  refine wpAnyK_step (i := 4) rfl (by kernel_rfl) (fun K hK => ?_)
  go_simp
  refine (valid_any a2 n2 cap2 ys q jnc hq hj false V2.out _ (R2.out.under D1.out)).mono ?_
  rintro e w2 ⟨rfl, hb2⟩
  have D2 := Lib.hid (D1.out.trans (hb2.mono D1.out.size))
  refine hK.out _ _ (KS.out _ D2.out) (fun hHeld3 => ?_)
  clear hK K hHeld2 hb2
  try simp only [Act.put, List.getElem_toArray, List.getElem_cons_zero, List.getElem_cons_succ, List.setIfInBounds_toArray, List.set_cons_zero, List.set_cons_succ]
  refine wpAnyK_take (i := 5) (v := ?_) rfl (by kernel_rfl) (fun _ _ _ h => h) (Or.inl ⟨by rfl, ?_⟩) (by assumption) ?_
  rotate_left
  · (intro w hSw; (try dsimp only at hSw); go_simp; try with_reducible rfl)
  try simp only [Act.put, List.getElem_toArray, List.getElem_cons_zero, List.getElem_cons_succ, List.setIfInBounds_toArray, List.set_cons_zero, List.set_cons_succ]
  refine wpAnyK_take (i := 6) (v := ?_) rfl (by kernel_rfl) (fun _ _ _ h => h) (Or.inl ⟨by rfl, ?_⟩) (by assumption) ?_
  rotate_left
  · (intro w hSw; (try dsimp only at hSw); go_simp; try with_reducible rfl)
  try simp only [Act.put, List.getElem_toArray, List.getElem_cons_zero, List.getElem_cons_succ, List.setIfInBounds_toArray, List.set_cons_zero, List.set_cons_succ]
  refine wpAnyK_take (i := 7) (v := undef) rfl (by kernel_rfl) (fun _ _ _ h => h) (Or.inr ⟨by rfl, rfl⟩) (by assumption) ?_
  try simp only [Act.put, List.getElem_toArray, List.getElem_cons_zero, List.getElem_cons_succ, List.setIfInBounds_toArray, List.set_cons_zero, List.set_cons_succ]
  refine wpAnyK_take (i := 8) (v := undef) rfl (by kernel_rfl) (fun _ _ _ h => h) (Or.inr ⟨by rfl, rfl⟩) (by assumption) ?_
  try simp only [Act.put, List.getElem_toArray, List.getElem_cons_zero, List.getElem_cons_succ, List.setIfInBounds_toArray, List.set_cons_zero, List.set_cons_succ]
  refine wpAnyK_take (i := 9) (v := undef) rfl (by kernel_rfl) (fun _ _ _ h => h) (Or.inr ⟨by rfl, rfl⟩) (by assumption) ?_
  try simp only [Act.put, List.getElem_toArray, List.getElem_cons_zero, List.getElem_cons_succ, List.setIfInBounds_toArray, List.set_cons_zero, List.set_cons_succ]
  refine wpAnyK_take (i := 10) (v := undef) rfl (by kernel_rfl) (fun _ _ _ h => h) (Or.inr ⟨by rfl, rfl⟩) (by assumption) ?_
  try simp only [Act.put, List.getElem_toArray, List.getElem_cons_zero, List.getElem_cons_succ, List.setIfInBounds_toArray, List.set_cons_zero, List.set_cons_succ]
  refine wpAnyK_take (i := 11) (v := undef) rfl (by kernel_rfl) (fun _ _ _ h => h) (Or.inr ⟨by rfl, rfl⟩) (by assumption) ?_
  try simp only [Act.put, List.getElem_toArray, List.getElem_cons_zero, List.getElem_cons_succ, List.setIfInBounds_toArray, List.set_cons_zero, List.set_cons_succ]
  refine wpAnyK_done (by kernel_rfl) ?_
  simp only [List.drop_succ_cons, List.drop_zero]
  go_wp2_with fail
  go_ret
  exact ⟨rfl, HBl.out.trans (D2.out.mono HBl.out.size)⟩

set_option maxRecDepth 100000 in
set_option maxHeartbeats 800000 in
theorem requal_bad1 (a : Option Addr) (n cap : Nat) (zs : List Int) (p inc : Int) (hp : In64 p) (hi : In64 inc) (hv1 : okC zs p inc = false) (a2 : Option Addr) (n2 cap2 : Nat) (ys : List Int) (q jnc : Int) (hq : In64 q) (hj : In64 jnc) (w : World) (h : RowZ w a n cap zs) (h2 : RowZ w a2 n2 cap2 ys) :
    Calls Try.prog 30 #[curV a n cap p inc, curV a2 n2 cap2 q jnc] w (Says (.bool false) w) := by
  have hB : Below w.heap.size w ((w.alloc (.cells #[.slice a n cap, .int .i64 p, .int .i64 inc] 24)).alloc (.cells #[.slice a2 n2 cap2, .int .i64 q, .int .i64 jnc] 24)) :=
    ((Below.refl _ _).alloc (Nat.le_refl _) _).alloc (by simp) _
  have HBl := Lib.hid hB
  have R1 := Lib.hid (h.under hB)
  have R2 := Lib.hid (h2.under hB)
  have B1 := Lib.hid ((Cur3.new w (.slice a n cap) (.int .i64 p) (.int .i64 inc) 24).alloc (.cells #[.slice a2 n2 cap2, .int .i64 q, .int .i64 jnc] 24))
  have B2 := Lib.hid (Cur3.new2 w (.slice a2 n2 cap2) (.int .i64 q) (.int .i64 jnc) 24 (.cells #[.slice a n cap, .int .i64 p, .int .i64 inc] 24))
  have V1 := Lib.hid hv1
  have _hq := hq; have _hj := hj
  clear h h2 hB hv1 
  go_enter Try.func30, Try.ntmps30
  go_wp2_with fail
  generalize (w.alloc (.cells #[.slice a n cap, .int .i64 p, .int .i64 inc] 24)).alloc (.cells #[.slice a2 n2 cap2, .int .i64 q, .int .i64 jnc] 24) = w0 at HBl R1 R2 B1 B2 ⊢
  have KS := Lib.hid (fun (u : World) (hb : Below w0.heap.size w0 u) => (show u.cell? ⟨w.heap.size, 0, none⟩ = some (.slice a n cap) ∧ u.cell? ⟨w.heap.size, 1, none⟩ = some (.int .i64 p) ∧ u.cell? ⟨w.heap.size, 2, none⟩ = some (.int .i64 inc) ∧ u.cell? ⟨w.heap.size + 1, 0, none⟩ = some (.slice a2 n2 cap2) ∧ u.cell? ⟨w.heap.size + 1, 1, none⟩ = some (.int .i64 q) ∧ u.cell? ⟨w.heap.size + 1, 2, none⟩ = some (.int .i64 jnc) from
    ⟨(B1.out.below hb).c0, (B1.out.below hb).c1, (B1.out.below hb).c2, (B2.out.below hb).c0, (B2.out.below hb).c1, (B2.out.below hb).c2⟩))
  have D0 := Lib.hid ((Below.refl _ _).drew : Below w0.heap.size w0 w0.drew)
  refine wp_region_keeps (fun u => u.cell? ⟨w.heap.size, 0, none⟩ = some (.slice a n cap) ∧ u.cell? ⟨w.heap.size, 1, none⟩ = some (.int .i64 p) ∧ u.cell? ⟨w.heap.size, 2, none⟩ = some (.int .i64 inc) ∧ u.cell? ⟨w.heap.size + 1, 0, none⟩ = some (.slice a2 n2 cap2) ∧ u.cell? ⟨w.heap.size + 1, 1, none⟩ = some (.int .i64 q) ∧ u.cell? ⟨w.heap.size + 1, 2, none⟩ = some (.int .i64 jnc)) 12 2 (by kernel_rfl) (by kernel_rfl) (KS.out _ D0.out) (fun hHeld => ?_)
  refine wpAnyK_take (i := 0) (v := ?_) rfl (by kernel_rfl) (fun _ _ _ h => h) (Or.inl ⟨by rfl, ?_⟩) (by assumption) ?_
  rotate_left
  · (intro w hSw; (try dsimp only at hSw); go_simp; try with_reducible rfl)
  try simp only [Act.put, List.getElem_toArray, List.getElem_cons_zero, List.getElem_cons_succ, List.setIfInBounds_toArray, List.set_cons_zero, List.set_cons_succ]
  refine wpAnyK_step (i := 1) rfl (by kernel_rfl) (fun K hK => ?_)
  go_simp
  refine (rvalid_any a n cap zs p inc hp hi false V1.out _ (R1.out.under D0.out)).mono ?_
  rintro e w1 ⟨rfl, hb1⟩
  have D1 := Lib.hid (D0.out.trans (hb1.mono D0.out.size))
  refine hK.out _ _ (KS.out _ D1.out) (fun hHeld2 => ?_)
  clear hK K hHeld hb1
  try simp only [Act.put, List.getElem_toArray, List.getElem_cons_zero, List.getElem_cons_succ, List.setIfInBounds_toArray, List.set_cons_zero, List.set_cons_succ]
  refine wpAnyK_take (i := 2) (v := ?_) rfl (by kernel_rfl) (fun _ _ _ h => h) (Or.inl ⟨by rfl, ?_⟩) (by assumption) ?_
  rotate_left
  · (intro w hSw; (try dsimp only at hSw); go_simp; try with_reducible rfl)
  try simp only [Act.put, List.getElem_toArray, List.getElem_cons_zero, List.getElem_cons_succ, List.setIfInBounds_toArray, List.set_cons_zero, List.set_cons_succ]
  refine wpAnyK_take (i := 3) (v := undef) rfl (by kernel_rfl) (fun _ _ _ h => h) (Or.inr ⟨by rfl, rfl⟩) (by assumption) ?_
  try simp only [Act.put, List.getElem_toArray, List.getElem_cons_zero, List.getElem_cons_succ, List.setIfInBounds_toArray, List.set_cons_zero, List.set_cons_succ]
  refine wpAnyK_take (i := 4) (v := undef) rfl (by kernel_rfl) (fun _ _ _ h => h) (Or.inr ⟨by rfl, rfl⟩) (by assumption) ?_
  try simp only [Act.put, List.getElem_toArray, List.getElem_cons_zero, List.getElem_cons_succ, List.setIfInBounds_toArray, List.set_cons_zero, List.set_cons_succ]
  refine wpAnyK_take (i := 5) (v := ?_) rfl (by kernel_rfl) (fun _ _ _ h => h) (Or.inl ⟨by rfl, ?_⟩) (by assumption) ?_
  rotate_left
  · (intro w hSw; (try dsimp only at hSw); go_simp; try with_reducible rfl)
  try simp only [Act.put, List.getElem_toArray, List.getElem_cons_zero, List.getElem_cons_succ, List.setIfInBounds_toArray, List.set_cons_zero, List.set_cons_succ]
  refine wpAnyK_take (i := 6) (v := ?_) rfl (by kernel_rfl) (fun _ _ _ h => h) (Or.inl ⟨by rfl, ?_⟩) (by assumption) ?_
  rotate_left
  · (intro w hSw; (try dsimp only at hSw); go_simp; try with_reducible rfl)
  try simp only [Act.put, List.getElem_toArray, List.getElem_cons_zero, List.getElem_cons_succ, List.setIfInBounds_toArray, List.set_cons_zero, List.set_cons_succ]
  refine wpAnyK_take (i := 7) (v := undef) rfl (by kernel_rfl) (fun _ _ _ h => h) (Or.inr ⟨by rfl, rfl⟩) (by assumption) ?_
  try simp only [Act.put, List.getElem_toArray, List.getElem_cons_zero, List.getElem_cons_succ, List.setIfInBounds_toArray, List.set_cons_zero, List.set_cons_succ]
  refine wpAnyK_take (i := 8) (v := undef) rfl (by kernel_rfl) (fun _ _ _ h => h) (Or.inr ⟨by rfl, rfl⟩) (by assumption) ?_
  try simp only [Act.put, List.getElem_toArray, List.getElem_cons_zero, List.getElem_cons_succ, List.setIfInBounds_toArray, List.set_cons_zero, List.set_cons_succ]
  refine wpAnyK_take (i := 9) (v := undef) rfl (by kernel_rfl) (fun _ _ _ h => h) (Or.inr ⟨by rfl, rfl⟩) (by assumption) ?_
  try simp only [Act.put, List.getElem_toArray, List.getElem_cons_zero, List.getElem_cons_succ, List.setIfInBounds_toArray, List.set_cons_zero, List.set_cons_succ]
  refine wpAnyK_take (i := 10) (v := undef) rfl (by kernel_rfl) (fun _ _ _ h => h) (Or.inr ⟨by rfl, rfl⟩) (by assumption) ?_
  try simp only [Act.put, List.getElem_toArray, List.getElem_cons_zero, List.getElem_cons_succ, List.setIfInBounds_toArray, List.set_cons_zero, List.set_cons_succ]
  refine wpAnyK_take (i := 11) (v := undef) rfl (by kernel_rfl) (fun _ _ _ h => h) (Or.inr ⟨by rfl, rfl⟩) (by assumption) ?_
  try simp only [Act.put, List.getElem_toArray, List.getElem_cons_zero, List.getElem_cons_succ, List.setIfInBounds_toArray, List.set_cons_zero, List.set_cons_succ]
  refine wpAnyK_done (by kernel_rfl) ?_
  simp only [List.drop_succ_cons, List.drop_zero]
  go_wp2_with fail
  go_ret
  exact ⟨rfl, HBl.out.trans (D1.out.mono HBl.out.size)⟩

set_option maxRecDepth 100000 in
set_option maxHeartbeats 800000 in
theorem requal_bad2 (a : Option Addr) (n cap : Nat) (zs : List Int) (p inc : Int) (hp : In64 p) (hi : In64 inc) (hv1 : okC zs p inc = true) (a2 : Option Addr) (n2 cap2 : Nat) (ys : List Int) (q jnc : Int) (hq : In64 q) (hj : In64 jnc) (hv2 : okC ys q jnc = false) (w : World) (h : RowZ w a n cap zs) (h2 : RowZ w a2 n2 cap2 ys) :
    Calls Try.prog 30 #[curV a n cap p inc, curV a2 n2 cap2 q jnc] w (Says (.bool false) w) := by
  have hB : Below w.heap.size w ((w.alloc (.cells #[.slice a n cap, .int .i64 p, .int .i64 inc] 24)).alloc (.cells #[.slice a2 n2 cap2, .int .i64 q, .int .i64 jnc] 24)) :=
    ((Below.refl _ _).alloc (Nat.le_refl _) _).alloc (by simp) _
  have HBl := Lib.hid hB
  have R1 := Lib.hid (h.under hB)
  have R2 := Lib.hid (h2.under hB)
  have B1 := Lib.hid ((Cur3.new w (.slice a n cap) (.int .i64 p) (.int .i64 inc) 24).alloc (.cells #[.slice a2 n2 cap2, .int .i64 q, .int .i64 jnc] 24))
  have B2 := Lib.hid (Cur3.new2 w (.slice a2 n2 cap2) (.int .i64 q) (.int .i64 jnc) 24 (.cells #[.slice a n cap, .int .i64 p, .int .i64 inc] 24))
  have V1 := Lib.hid hv1
  have V2 := Lib.hid hv2
  clear h h2 hB hv1 hv2
  go_enter Try.func30, Try.ntmps30
  go_wp2_with fail
  generalize (w.alloc (.cells #[.slice a n cap, .int .i64 p, .int .i64 inc] 24)).alloc (.cells #[.slice a2 n2 cap2, .int .i64 q, .int .i64 jnc] 24) = w0 at HBl R1 R2 B1 B2 ⊢
  have KS := Lib.hid (fun (u : World) (hb : Below w0.heap.size w0 u) => (show u.cell? ⟨w.heap.size, 0, none⟩ = some (.slice a n cap) ∧ u.cell? ⟨w.heap.size, 1, none⟩ = some (.int .i64 p) ∧ u.cell? ⟨w.heap.size, 2, none⟩ = some (.int .i64 inc) ∧ u.cell? ⟨w.heap.size + 1, 0, none⟩ = some (.slice a2 n2 cap2) ∧ u.cell? ⟨w.heap.size + 1, 1, none⟩ = some (.int .i64 q) ∧ u.cell? ⟨w.heap.size + 1, 2, none⟩ = some (.int .i64 jnc) from
    ⟨(B1.out.below hb).c0, (B1.out.below hb).c1, (B1.out.below hb).c2, (B2.out.below hb).c0, (B2.out.below hb).c1, (B2.out.below hb).c2⟩))
  have D0 := Lib.hid ((Below.refl _ _).drew : Below w0.heap.size w0 w0.drew)
  refine wp_region_keeps (fun u => u.cell? ⟨w.heap.size, 0, none⟩ = some (.slice a n cap) ∧ u.cell? ⟨w.heap.size, 1, none⟩ = some (.int .i64 p) ∧ u.cell? ⟨w.heap.size, 2, none⟩ = some (.int .i64 inc) ∧ u.cell? ⟨w.heap.size + 1, 0, none⟩ = some (.slice a2 n2 cap2) ∧ u.cell? ⟨w.heap.size + 1, 1, none⟩ = some (.int .i64 q) ∧ u.cell? ⟨w.heap.size + 1, 2, none⟩ = some (.int .i64 jnc)) 12 2 (by kernel_rfl) (by kernel_rfl) (KS.out _ D0.out) (fun hHeld => ?_)
  refine wpAnyK_take (i := 0) (v := ?_) rfl (by kernel_rfl) (fun _ _ _ h => h) (Or.inl ⟨by rfl, ?_⟩) (by assumption) ?_
  rotate_left
  · (intro w hSw; (try dsimp only at hSw); go_simp; try with_reducible rfl)
  try simp only [Act.put, List.getElem_toArray, List.getElem_cons_zero, List.getElem_cons_succ, List.setIfInBounds_toArray, List.set_cons_zero, List.set_cons_succ]
  refine wpAnyK_step (i := 1) rfl (by kernel_rfl) (fun K hK => ?_)
  go_simp
  refine (rvalid_any a n cap zs p inc hp hi true V1.out _ (R1.out.under D0.out)).mono ?_
  rintro e w1 ⟨rfl, hb1⟩
  have D1 := Lib.hid (D0.out.trans (hb1.mono D0.out.size))
  refine hK.out _ _ (KS.out _ D1.out) (fun hHeld2 => ?_)
  clear hK K hHeld hb1
  try simp only [Act.put, List.getElem_toArray, List.getElem_cons_zero, List.getElem_cons_succ, List.setIfInBounds_toArray, List.set_cons_zero, List.set_cons_succ]
  refine wpAnyK_take (i := 2) (v := ?_) rfl (by kernel_rfl) (fun _ _ _ h => h) (Or.inl ⟨by rfl, ?_⟩) (by assumption) ?_
  rotate_left
  · (intro w hSw; (try dsimp only at hSw); go_simp; try with_reducible rfl)
  try simp only [Act.put, List.getElem_toArray, List.getElem_cons_zero, List.getElem_cons_succ, List.setIfInBounds_toArray, List.set_cons_zero, List.set_cons_succ]
  refine wpAnyK_take (i := 3) (v := ?_) rfl (by kernel_rfl) (fun _ _ _ h => h) (Or.inl ⟨by rfl, ?_⟩) (by assumption) ?_
  rotate_left
  · (intro w hSw; (try dsimp only at hSw); go_simp; try with_reducible rfl)
  try simp only [Act.put, List.getElem_toArray, List.getElem_cons_zero, List.getElem_cons_succ, List.setIfInBounds_toArray, List.set_cons_zero, List.set_cons_succ]
  refine wpAnyK_step (i := 4) rfl (by kernel_rfl) (fun K hK => ?_)
  go_simp
  refine (rvalid_any a2 n2 cap2 ys q jnc hq hj false V2.out _ (R2.out.under D1.out)).mono ?_
  rintro e w2 ⟨rfl, hb2⟩
  have D2 := Lib.hid (D1.out.trans (hb2.mono D1.out.size))
  refine hK.out _ _ (KS.out _ D2.out) (fun hHeld3 => ?_)
  clear hK K hHeld2 hb2
  try simp only [Act.put, List.getElem_toArray, List.getElem_cons_zero, List.getElem_cons_succ, List.setIfInBounds_toArray, List.set_cons_zero, List.set_cons_succ]
  refine wpAnyK_take (i := 5) (v := ?_) rfl (by kernel_rfl) (fun _ _ _ h => h) (Or.inl ⟨by rfl, ?_⟩) (by assumption) ?_
  rotate_left
  · (intro w hSw; (try dsimp only at hSw); go_simp; try with_reducible rfl)
  try simp only [Act.put, List.getElem_toArray, List.getElem_cons_zero, List.getElem_cons_succ, List.setIfInBounds_toArray, List.set_cons_zero, List.set_cons_succ]
  refine wpAnyK_take (i := 6) (v := ?_) rfl (by kernel_rfl) (fun _ _ _ h => h) (Or.inl ⟨by rfl, ?_⟩) (by assumption) ?_
  rotate_left
  · (intro w hSw; (try dsimp only at hSw); go_simp; try with_reducible rfl)
  try simp only [Act.put, List.getElem_toArray, List.getElem_cons_zero, List.getElem_cons_succ, List.setIfInBounds_toArray, List.set_cons_zero, List.set_cons_succ]
  refine wpAnyK_take (i := 7) (v := undef) rfl (by kernel_rfl) (fun _ _ _ h => h) (Or.inr ⟨by rfl, rfl⟩) (by assumption) ?_
  try simp only [Act.put, List.getElem_toArray, List.getElem_cons_zero, List.getElem_cons_succ, List.setIfInBounds_toArray, List.set_cons_zero, List.set_cons_succ]
  refine wpAnyK_take (i := 8) (v := undef) rfl (by kernel_rfl) (fun _ _ _ h => h) (Or.inr ⟨by rfl, rfl⟩) (by assumption) ?_
  try simp only [Act.put, List.getElem_toArray, List.getElem_cons_zero, List.getElem_cons_succ, List.setIfInBounds_toArray, List.set_cons_zero, List.set_cons_succ]
  refine wpAnyK_take (i := 9) (v := undef) rfl (by kernel_rfl) (fun _ _ _ h => h) (Or.inr ⟨by rfl, rfl⟩) (by assumption) ?_
  try simp only [Act.put, List.getElem_toArray, List.getElem_cons_zero, List.getElem_cons_succ, List.setIfInBounds_toArray, List.set_cons_zero, List.set_cons_succ]
  refine wpAnyK_take (i := 10) (v := undef) rfl (by kernel_rfl) (fun _ _ _ h => h) (Or.inr ⟨by rfl, rfl⟩) (by assumption) ?_
  try simp only [Act.put, List.getElem_toArray, List.getElem_cons_zero, List.getElem_cons_succ, List.setIfInBounds_toArray, List.set_cons_zero, List.set_cons_succ]
  refine wpAnyK_take (i := 11) (v := undef) rfl (by kernel_rfl) (fun _ _ _ h => h) (Or.inr ⟨by rfl, rfl⟩) (by assumption) ?_
  try simp only [Act.put, List.getElem_toArray, List.getElem_cons_zero, List.getElem_cons_succ, List.setIfInBounds_toArray, List.set_cons_zero, List.set_cons_succ]
  refine wpAnyK_done (by kernel_rfl) ?_
  simp only [List.drop_succ_cons, List.drop_zero]
  go_wp2_with fail
  go_ret
  exact ⟨rfl, HBl.out.trans (D2.out.mono HBl.out.size)⟩

set_option maxHeartbeats 800000 in
theorem start_bad (a : Option Addr) (n cap : Nat) (zs : List Int) (p inc : Int) (hp : In64 p) (hi : In64 inc) (hb : okC zs p inc = false) (w : World) (h : RowZ w a n cap zs) :
    Calls Try.prog 22 #[curV a n cap p inc] w (Says (.int .i64 0) w) := by
  have HBl := Lib.hid (box_below w (.cells #[.slice a n cap, .int .i64 p, .int .i64 inc] 24))
  have H := Lib.hid (h.under HBl.out)
  have HB := Lib.hid hb
  clear h hb
  go_enter Try.func22, Try.ntmps22
  go_wp2_with fail
  refine (normal_bad a n cap zs p inc hp hi HB.out _ H.out).mono ?_
  rintro e w1 ⟨rfl, hb⟩
  have HB1 := Lib.hid (HBl.out.trans (hb.mono HBl.out.size))
  clear hb
  go_wp2_with fail
  go_ret
  exact ⟨rfl, HB1.out.alloc HB1.out.size _⟩

set_option maxHeartbeats 800000 in
theorem rstart_bad (a : Option Addr) (n cap : Nat) (zs : List Int) (p inc : Int) (hp : In64 p) (hi : In64 inc) (hb : okC zs p inc = false) (w : World) (h : RowZ w a n cap zs) :
    Calls Try.prog 23 #[curV a n cap p inc] w (Says (.int .i64 0) w) := by
  have HBl := Lib.hid (box_below w (.cells #[.slice a n cap, .int .i64 p, .int .i64 inc] 24))
  have H := Lib.hid (h.under HBl.out)
  have HB := Lib.hid hb
  clear h hb
  go_enter Try.func23, Try.ntmps23
  go_wp2_with fail
  refine (rvalid_any a n cap zs p inc hp hi false HB.out _ H.out).mono ?_
  rintro e w1 ⟨rfl, hb⟩
  go_wp2_with fail
  go_ret
  exact ⟨rfl, HBl.out.trans (hb.mono HBl.out.size)⟩

set_option maxHeartbeats 800000 in
theorem rstart_at (a : Option Addr) (n cap : Nat) (zs : List Int) (p : Nat) (inc : Int) (g : Good zs p inc) {zs' : List Int} {p' : Nat} {inc' : Int} (hn : NormC zs p inc zs' p' inc') (s : Nat) (hs : zs'.length = s + p') (w : World) (h : RowZ w a n cap zs) :
    Calls Try.prog 23 #[curV a n cap p inc] w (Says (.int .i64 s) w) := by
  have HBl := Lib.hid (box_below w (.cells #[.slice a n cap, .int .i64 p, .int .i64 inc] 24))
  have H := Lib.hid (h.under HBl.out)
  have KF := Lib.hid (Cur3.new w (.slice a n cap) (.int .i64 p) (.int .i64 inc) 24)
  have HB := Lib.hid ((okC_iff zs p inc).2 g)
  have G := Lib.hid g
  have HN := Lib.hid (And.intro hn hs)
  obtain ⟨b1, b2, b3, b4, b5, b6⟩ := norm_p3 g hn
  have a1 := g.p2; have a2 := g.i0; have a3 := g.i1
  have hs4 : s ≤ 400 := by omega
  clear h g hn hs b3 b4
  go_enter Try.func23, Try.ntmps23
  go_wp2_with fail
  refine (rvalid_any a n cap zs p inc ⟨by omega, by omega⟩ ⟨by omega, by omega⟩ true HB.out _ H.out).mono ?_
  rintro e w1 ⟨rfl, hb⟩
  obtain ⟨c0, c1, c2, f0, f1, f2⟩ := KF.out.below hb
  have H1 := Lib.hid (H.out.under hb)
  have HB1 := Lib.hid (HBl.out.trans (hb.mono HBl.out.size))
  clear hb
  go_wp2_with fail
  refine (rleast_any a n cap zs p inc G.out _ H1.out).mono ?_
  rintro e w2 ⟨a', n', cap', zs2, p2, inc2, rfl, hb2, hr2, hn2, _⟩
  obtain ⟨rfl, rfl, rfl⟩ := HN.out.1.canon G.out G.out hn2 (fun _ => rfl)
  have HB2 := Lib.hid (HB1.out.trans (hb2.mono HB1.out.size))
  have q0 : n' = s + p' := hr2.len.symm.trans HN.out.2
  have q1 : (n' : Int) - (p' : Int) = (s : Int) := by omega
  have q2 : IntKind.i64.wrap (s : Int) = (s : Int) := IntWalk.i64_in _ ⟨by omega, by omega⟩
  have q3 : n' ≤ 800 := by omega
  clear hb2 hr2 hn2 q0 c0 c1 c2 f0 f1 f2
  go_wp2_with fail
  go_ret
  exact ⟨ret_int (by first | rfl | omega), HB2.out.alloc HB2.out.size _⟩

end Go.Proofs.Ytdakadgfnlpogaa
