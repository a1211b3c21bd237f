/- keep's Steps, the document's Same of two equal certificates, Valid of a long list. By the verifier's side. -/
import Derived.Test.YtcbocglakielnaaEDecBadRDBadDecU
import Derived.Test.YtcbocglakielnaaEBentE
import Derived.Test.YtcbocglakielnaaEPick
import Derived.Test.YtcbocglakielnaaECurveAnswersW
namespace Go.Proofs.Ytcbocglakielnaa
open Go.RowKit
set_option linter.unusedSimpArgs false
set_option linter.unusedVariables false

/-- A curve that is read off, of which no more than its lists and numbers are told. -/
def GivesAny8 (b : Nat) (a : Option Addr) (n cap : Nat) (w : World) (e : Ending) (w' : World) : Prop :=
  ∃ (a' : Option Addr) (n' cap' : Nat) (zs : List Int) (p inc : Int), e = .returned (curV a' n' cap' p inc) ∧ SrcAt w' b a n cap ∧ Apart b w w' ∧ RowZ w' a' n' cap' zs ∧ In64 p ∧ In64 inc ∧ ∀ x, a' = some x → w.heap.size ≤ x.block

theorem RowF.apart {u v : World} {lb m b : Nat} {F : Nat → Int} (h : RowF u lb m F) (ha : Apart b u v) (hb : ¬ lb = b) : RowF v lb m F := by
  obtain ⟨h1, h2⟩ := acell ha
  exact ⟨Nat.lt_of_lt_of_le h.lt ha.size, fun i hi => ⟨(h1 lb i h.lt hb).trans (h.cell i hi).1, (h2 lb i h.lt hb).trans (h.cell i hi).2⟩⟩
theorem steps_post {b n cap m B : Nat} {a : Option Addr} {inc : Int} {w w9 : World} (HD : Held w b a n cap w9) (hS : SrcAt w b a n cap) (hbl : b < w.heap.size) (hm : m ≤ 119) (hi : In64 inc) (hr : RowF w9 B m (fun _ => 0)) (hB : w.heap.size < B) :
    GivesAny8 b a n cap w (.returned (curV (some ⟨B, 0, none⟩) m m m inc)) (((w9.setCell ⟨w.heap.size, 0, none⟩ (.slice (some ⟨B, 0, none⟩) m m)).setCell ⟨w.heap.size, 1, none⟩ (.int .i64 m)).setCell ⟨w.heap.size, 2, none⟩ (.int .i64 inc)) := by
  have H := ((HD.set hbl (p := ⟨w.heap.size, 0, none⟩) (Nat.le_refl _) (.slice (some ⟨B, 0, none⟩) m m)).set hbl (p := ⟨w.heap.size, 1, none⟩) (Nat.le_refl _) (.int .i64 m)).set hbl (p := ⟨w.heap.size, 2, none⟩) (Nat.le_refl _) (.int .i64 inc)
  have R := hr.rowZ (M := m) (Nat.le_refl _) (by omega) (fun i _ => ⟨by decide, by decide⟩)
  have q : ∀ x, some (⟨B, 0, none⟩ : Addr) = some x → 1 ≤ m → x.block ≠ w.heap.size := fun x e _ => by cases e; show B ≠ w.heap.size; omega
  exact ⟨_, m, m, _, m, inc, rfl, H.at hS, H.ap, ((R.store q _ _).store q _ _).store q _ _, ⟨by omega, by omega⟩, hi, fun x e => by cases e; show w.heap.size ≤ B; omega⟩

set_option maxRecDepth 100000 in
set_option maxHeartbeats 3200000 in
theorem steps_any (b : Nat) (a : Option Addr) (n cap : Nat) (w : World) (h : SrcAt w b a n cap) :
    Calls Try.prog 20 #[.pointer (some ⟨b, 0, none⟩)] w (GivesAny8 b a n cap w) := by
  obtain ⟨i0, hi, hz0, hz1, hz2⟩ := info_parts info_int
  have HS := Lib.hid h
  have hbl := h.lt
  have HD0 := Lib.hid (((Held.start h).alloc (.cells #[.slice none 0 0, .int .i64 0, .int .i64 0] 24)).alloc (.cells #[.int .i64 2, .int .i64 3, .int .i64 5, .int .i64 8, .int .i64 9, .int .i64 11, .int .i64 13, .int .i64 16, .int .i64 40, .int .i64 60, .int .i64 119] 3))
  have KR0 := Lib.hid ((Cur3.new w (.slice none 0 0) (.int .i64 0) (.int .i64 0) 24).alloc (.cells #[.int .i64 2, .int .i64 3, .int .i64 5, .int .i64 8, .int .i64 9, .int .i64 11, .int .i64 13, .int .i64 16, .int .i64 40, .int .i64 60, .int .i64 119] 3))
  have hbR : ¬ w.heap.size = b := by omega
  have HL := Lib.hid (list_newP (fun z => 2 ≤ z ∧ z ≤ 119) (w.alloc (.cells #[.slice none 0 0, .int .i64 0, .int .i64 0] 24)) [2, 3, 5, 8, 9, 11, 13, 16, 40, 60, 119] 3 (by decide))
  clear h
  go_enter Try.func20, Try.ntmps20
  go_wp2_with fail
  refine (pick_of (fun z => 2 ≤ z ∧ z ≤ 119) (fun z hz => ⟨by omega, by omega⟩) (w.heap.size + 1) 11 11 (by omega) (by omega) b (by omega) a n cap _ (HD0.out.at HS.out) (by have := HL.out; simpa using this)).mono ?_
  rintro e w1 ⟨z, hz, rfl, hs, he⟩
  obtain ⟨m, rfl⟩ := Int.eq_ofNat_of_zero_le (show 0 ≤ z by omega)
  have hm : m ≤ 119 := by omega
  have HD1 := Lib.hid (HD0.out.call hs he)
  have KR1 := Lib.hid (KR0.out.apart he hbR)
  have HM := Lib.hid (make_rowD m (by omega))
  have SZ1 := Lib.hid (show w.heap.size + 1 < w1.heap.size by have := he.size; simp at this; omega)
  clear hs he hz
  go_upto_region 2 with fail
  have hmk := HM.out
  refine wp_region_keeps (fun u => Hid (Held w b a n cap u ∧ Cur3 u w.heap.size (.slice none 0 0) (.int .i64 0) (.int .i64 0))) 6 2 (by kernel_rfl) (by kernel_rfl) (Lib.hid (And.intro HD1.out.drew (KR1.out.drewN 1))) (fun hHeld0 => ?_)
  refine wpAnyK_take (i := 0) (v := ?_) rfl (by kernel_rfl) (fun _ _ _ h => h) (Or.inl ⟨by rfl, ?_⟩) (by assumption) ?_
  rotate_left
  · (intro w hSw; (try dsimp only at hSw); go_simp; try with_reducible rfl)
  try simp only [Act.put, List.getElem_toArray, List.getElem_cons_zero, List.getElem_cons_succ, List.setIfInBounds_toArray, List.set_cons_zero, List.set_cons_succ]
  refine wpAnyK_take (i := 2) (v := ?_) rfl (by kernel_rfl) (fun _ _ _ h => h) (Or.inl ⟨by rfl, ?_⟩) (by assumption) ?_
  rotate_left
  · (intro w hSw; (try dsimp only at hSw); go_simp; try with_reducible rfl)
  try simp only [Act.put, List.getElem_toArray, List.getElem_cons_zero, List.getElem_cons_succ, List.setIfInBounds_toArray, List.set_cons_zero, List.set_cons_succ]
  refine wpAnyK_take (i := 3) (v := ?_) rfl (by kernel_rfl) (fun _ _ _ h => h) (Or.inl ⟨by rfl, ?_⟩) (by assumption) ?_
  rotate_left
  · (intro w hSw; (try dsimp only at hSw); go_simp; try with_reducible rfl)
  try simp only [Act.put, List.getElem_toArray, List.getElem_cons_zero, List.getElem_cons_succ, List.setIfInBounds_toArray, List.set_cons_zero, List.set_cons_succ]
  refine wpAnyK_two (i := 1) (j := 4) rfl rfl (by kernel_rfl) (fun K hK => ?_) (fun K hK => ?_)
  · go_simp
    obtain ⟨x1, hv⟩ : ∃ W', (w1.alloc (.cells (madeCells #[.int .i64 0] m) 3)).drew = W' := ⟨_, rfl⟩
    have hu : w1.drew.alloc (.cells (madeCells #[.int .i64 0] m) 3) = x1 := hv
    have hbx : Below w1.drew.heap.size w1.drew x1 := by rw [← hu]; exact (Below.refl _ _).alloc (Nat.le_refl _) _
    have R_x1 := Lib.hid (show RowF x1 w1.drew.heap.size m (fun _ => 0) by rw [← hu]; exact RowF.made w1.drew m)
    rw [hv]
    clear hu hv
    have T1 := Lib.hid (And.intro (HD1.out.drew.below hbx) ((KR1.out.drewN 1).below hbx))
    have Z1 := Lib.hid (show w1.heap.size < x1.heap.size from R_x1.out.lt)
    refine hK.out _ _ T1 (fun hHeld1 => ?_)
    clear hK K hHeld0 hbx
    try simp only [Act.put, List.getElem_toArray, List.getElem_cons_zero, List.getElem_cons_succ, List.setIfInBounds_toArray, List.set_cons_zero, List.set_cons_succ]
    refine wpAnyK_step (i := 4) rfl (by kernel_rfl) (fun K hK => ?_)
    go_simp
    with_reducible refine (n_any 40 (by omega) (by omega) b a n cap _ (T1.out.1.at HS.out)).mono ?_
    rintro e x2 ⟨r, ⟨hr0, hr1⟩, rfl, hs, he⟩
    have T2 := Lib.hid (And.intro (T1.out.1.call hs he.apart) (T1.out.2.apart he.apart hbR))
    have R2 := Lib.hid (R_x1.out.apart he.apart (by show ¬ w1.heap.size = b; have := SZ1.out; omega))
    clear hs he
    refine hK.out _ _ T2 (fun hHeld2 => ?_)
    clear hK K hHeld1
    try simp only [Act.put, List.getElem_toArray, List.getElem_cons_zero, List.getElem_cons_succ, List.setIfInBounds_toArray, List.set_cons_zero, List.set_cons_succ]
    refine wpAnyK_take (i := 5) (v := ?_) rfl (by kernel_rfl) (fun _ _ _ h => h) (Or.inl ⟨by rfl, ?_⟩) (by assumption) ?_
    rotate_left
    · (intro w hSw; (try dsimp only at hSw); go_simp; try with_reducible rfl)
    try simp only [Act.put, List.getElem_toArray, List.getElem_cons_zero, List.getElem_cons_succ, List.setIfInBounds_toArray, List.set_cons_zero, List.set_cons_succ]
    refine wpAnyK_done (by kernel_rfl) ?_
    simp only [List.drop_succ_cons, List.drop_zero]
    clear hHeld2
    have HP := Lib.hid (steps_post T2.out.1 HS.out hbl hm (show In64 (1 + r) from ⟨by omega, by omega⟩) R2.out (by show w.heap.size < w1.heap.size; have := SZ1.out; omega))
    obtain ⟨c0, c1, c2, f0, f1, f2⟩ := T2.out.2
    go_wp2_with fail
    exact bodyPost_ret (v := curV (some ⟨w1.heap.size, 0, none⟩) m m m (1 + r)) (by simp [results, Try.results20, go_sem, c0, c1, c2]) rfl HP.out
  · go_simp
    with_reducible refine (n_any 40 (by omega) (by omega) b a n cap _ (HD1.out.drew.at HS.out)).mono ?_
    rintro e x1 ⟨r, ⟨hr0, hr1⟩, rfl, hs, he⟩
    have T1 := Lib.hid (And.intro (HD1.out.drew.call hs he.apart) ((KR1.out.drewN 1).apart he.apart hbR))
    have Z1 := Lib.hid (show w.heap.size + 1 < x1.heap.size by have := he.apart.size; have := SZ1.out; have : w1.drew.heap.size = w1.heap.size := rfl; omega)
    clear hs he
    refine hK.out _ _ T1 (fun hHeld1 => ?_)
    clear hK K hHeld0
    try simp only [Act.put, List.getElem_toArray, List.getElem_cons_zero, List.getElem_cons_succ, List.setIfInBounds_toArray, List.set_cons_zero, List.set_cons_succ]
    refine wpAnyK_take (i := 5) (v := ?_) rfl (by kernel_rfl) (fun _ _ _ h => h) (Or.inl ⟨by rfl, ?_⟩) (by assumption) ?_
    rotate_left
    · (intro w hSw; (try dsimp only at hSw); go_simp; try with_reducible rfl)
    try simp only [Act.put, List.getElem_toArray, List.getElem_cons_zero, List.getElem_cons_succ, List.setIfInBounds_toArray, List.set_cons_zero, List.set_cons_succ]
    refine wpAnyK_step (i := 1) rfl (by kernel_rfl) (fun K hK => ?_)
    go_simp
    obtain ⟨x2, hv⟩ : ∃ W', x1.alloc (.cells (madeCells #[.int .i64 0] m) 3) = W' := ⟨_, rfl⟩
    have hu : x1.alloc (.cells (madeCells #[.int .i64 0] m) 3) = x2 := hv
    have hbx : Below x1.heap.size x1 x2 := by rw [← hu]; exact (Below.refl _ _).alloc (Nat.le_refl _) _
    have R_x2 := Lib.hid (show RowF x2 x1.heap.size m (fun _ => 0) by rw [← hu]; exact RowF.made x1 m)
    rw [hv]
    clear hu hv
    have T2 := Lib.hid (And.intro (T1.out.1.below hbx) (T1.out.2.below hbx))
    refine hK.out _ _ T2 (fun hHeld2 => ?_)
    clear hK K hHeld1 hbx
    try simp only [Act.put, List.getElem_toArray, List.getElem_cons_zero, List.getElem_cons_succ, List.setIfInBounds_toArray, List.set_cons_zero, List.set_cons_succ]
    refine wpAnyK_done (by kernel_rfl) ?_
    simp only [List.drop_succ_cons, List.drop_zero]
    clear hHeld2
    have HP := Lib.hid (steps_post T2.out.1 HS.out hbl hm (show In64 (1 + r) from ⟨by omega, by omega⟩) R_x2.out (by have := Z1.out; omega))
    obtain ⟨c0, c1, c2, f0, f1, f2⟩ := T2.out.2
    go_wp2_with fail
    exact bodyPost_ret (v := curV (some ⟨x1.heap.size, 0, none⟩) m m m (1 + r)) (by simp [results, Try.results20, go_sem, c0, c1, c2]) rfl HP.out

set_option maxRecDepth 100000 in
set_option maxHeartbeats 1600000 in
theorem rvalid_long (a : Option Addr) (n cap : Nat) (p inc : Int) (hn : 400 < n) (w : World) :
    Calls Try.prog 56 #[curV a n cap p inc] w (Says (.bool false) w) := by
  have h1 : (400 : Int) < (n : Int) := by omega
  have h2 : ¬ (n : Int) < 1 := by omega
  go_enter Try.func56, Try.ntmps56
  go_wp2_with fail
  go_ret
  exact ⟨rfl, box_below _ _⟩

end Go.Proofs.Ytcbocglakielnaa

namespace Go.Proofs.Ytcbocglakielnaa
open Go.RowKit
set_option linter.unusedSimpArgs false
set_option linter.unusedVariables false

set_option maxHeartbeats 3200000 in
theorem rsame8_self (a : Option Addr) (n cap : Nat) (a2 : Option Addr) (n2 cap2 : Nat) (zs : List Int) (p inc : Int) (at1 : Option Addr) (m mc : Nat) (at2 : Option Addr) (m2 mc2 : Nat) (ts : List Int) (w : World) (h1 : RowZ w a n cap zs) (h2 : RowZ w a2 n2 cap2 zs) (k1 : RowZ w at1 m mc ts) (k2 : RowZ w at2 m2 mc2 ts) :
    Calls Try.prog 49 #[gainsV a n cap p inc at1 m mc, gainsV a2 n2 cap2 p inc at2 m2 mc2] w (Says (.bool true) w) := by
  obtain ⟨W, hW⟩ : ∃ W, ((w.alloc (.cells #[.slice a n cap, .int .i64 p, .int .i64 inc, .slice at1 m mc] 57)).alloc (.cells #[.slice a2 n2 cap2, .int .i64 p, .int .i64 inc, .slice at2 m2 mc2] 57)) = W := ⟨_, rfl⟩
  have hB : Below w.heap.size w W := by rw [← hW]; exact ((Below.refl _ _).alloc (Nat.le_refl _) _).alloc (by simp) _
  have KF := Lib.hid (show G4 W w.heap.size (.slice a n cap) (.int .i64 p) (.int .i64 inc) (.slice at1 m mc) by rw [← hW]; exact (g4_new w _ _ _ _ _).below ((Below.refl _ _).alloc (Nat.le_refl _) _))
  have KG := Lib.hid (show G4 W (w.heap.size + 1) (.slice a2 n2 cap2) (.int .i64 p) (.int .i64 inc) (.slice at2 m2 mc2) by
    rw [← hW]
    have := g4_new (w.alloc (.cells #[.slice a n cap, .int .i64 p, .int .i64 inc, .slice at1 m mc] 57)) (.slice a2 n2 cap2) (.int .i64 p) (.int .i64 inc) (.slice at2 m2 mc2) 57
    simpa using this)
  have HBl := Lib.hid hB
  have HR := Lib.hid (And.intro (h1.under hB) (h2.under hB))
  have HK := Lib.hid (And.intro (k1.under hB) (k2.under hB))
  have hm : m2 = m := k2.len.symm.trans k1.len
  have hml := k1.sm
  subst hm
  have HW := Lib.hid hW
  have t1 : ((m2 : Int) != (m2 : Int)) = false := by simp
  clear hB hW h1 h2 k1 k2
  go_enter Try.func49, Try.ntmps49
  go_upto_region 1 with fail
  try rw [HW.out]
  obtain ⟨⟨c0, c1, c2, f0, f1, f2⟩, c3, f3⟩ := KF.out
  obtain ⟨⟨d0, d1, d2, g0, g1, g2⟩, d3, g3⟩ := KG.out
  go_wp2_with fail
  refine (rsame_any a n cap zs p inc a2 n2 cap2 zs p inc true (sameB_iff.2 ⟨rfl, rfl, rfl⟩) _ HR.out.1 HR.out.2).mono ?_
  rintro e W1 ⟨rfl, hb⟩
  have KF1 := Lib.hid (KF.out.below hb)
  have KG1 := Lib.hid (KG.out.below hb)
  have HB1 := Lib.hid (HBl.out.trans (hb.mono HBl.out.size))
  have HK1 := Lib.hid (And.intro (HK.out.1.under hb) (HK.out.2.under hb))
  clear hb c0 c1 c2 f0 f1 f2 c3 f3 d0 d1 d2 g0 g1 g2 d3 g3
  go_wp2_with fail
  go_loopw [5] (fun s5 wx => ∃ k : Nat, s5 = .int .i64 k ∧ k ≤ m2 ∧ Hid (∃ q, wx = W1.drewN q)) (fun s5 _ => m2 - (intOf s5).toNat)
  case atStart => exact ⟨0, rfl, Nat.zero_le _, Lib.hid ⟨0, rfl⟩⟩
  case round =>
    obtain ⟨k, rfl, hk, hdr⟩ := hrel
    obtain ⟨w1, rfl⟩ : ∃ u : World, u = wr := ⟨_, rfl⟩
    have hbd := below_dr (Below.refl W1.heap.size W1) hdr.out
    obtain ⟨⟨c0, c1, c2, f0, f1, f2⟩, c3, f3⟩ := KF1.out.below hbd
    obtain ⟨⟨d0, d1, d2, g0, g1, g2⟩, d3, g3⟩ := KG1.out.below hbd
    by_cases hlt : k < m2
    · obtain ⟨x, rfl, hcx⟩ := (HK1.out.1.under hbd).cell k hlt
      obtain ⟨y, rfl, hcy⟩ := (HK1.out.2.under hbd).cell k hlt
      obtain ⟨v1, hv1⟩ : ∃ v, ts.getD k 0 = v := ⟨_, rfl⟩
      rw [hv1] at hcx hcy
      have hd' : (v1 != v1) = false := by simp
      clear hv1 hbd
      go_wp2_with fail
      go_quiet (fail)
      go_wp2_with fail
      go_roundw
      case rel => exact ⟨k + 1, by go_num, by omega, Lib.hid (hdr_add hdr.out nq)⟩
      case measure => simp [intOf]; omega
    · obtain rfl : k = m2 := by omega
      clear hbd
      go_wp2_with fail
      go_ret
      exact ⟨rfl, below_dr HB1.out hdr.out⟩

end Go.Proofs.Ytcbocglakielnaa

namespace Go.Proofs.Ytcbocglakielnaa
open Go.RowKit
set_option linter.unusedSimpArgs false
set_option linter.unusedVariables false

/-- One of a list's curves: its cells, and, if it is short, its values. -/
def Cl8 (w : World) (B k : Nat) (S : Nat → Prop) : Prop :=
  ∃ (xa : Option Addr) (xn xc : Nat) (zx : List Int) (xp xi : Int), w.cell? ⟨B, k * 3, none⟩ = some (.slice xa xn xc) ∧ w.cell? ⟨B, k * 3 + 1, none⟩ = some (.int .i64 xp) ∧ w.cell? ⟨B, k * 3 + 2, none⟩ = some (.int .i64 xi) ∧ (xn ≤ 800 → RowZ w xa xn xc zx) ∧ In64 xp ∧ In64 xi ∧ (xn ≤ 800 → S k)
theorem Cl8.below {w u : World} {B k : Nat} {S : Nat → Prop} (h : Cl8 w B k S) (hb : Below w.heap.size w u) : Cl8 u B k S := by
  obtain ⟨xa, xn, xc, zx, xp, xi, h1, h2, h3, h4, h5, h6, h7⟩ := h
  exact ⟨xa, xn, xc, zx, xp, xi, (hb.cell (lt_of_cell h1)).trans h1, (hb.cell (lt_of_cell h2)).trans h2, (hb.cell (lt_of_cell h3)).trans h3, fun q => (h4 q).under hb, h5, h6, h7⟩
def GivesShort (S : Nat → Prop) (w : World) (e : Ending) (w' : World) : Prop :=
  ∃ b : Bool, e = .returned (.bool b) ∧ Below w.heap.size w w' ∧ (b = true → S 0 ∧ S 1)

set_option maxRecDepth 100000 in
set_option maxHeartbeats 3200000 in
theorem short8 (B : Nat) (S : Nat → Prop) (w : World) (h : ∀ k, k < 2 → Cl8 w B k S) :
    Calls Try.prog 42 #[.slice (some ⟨B, 0, none⟩) 2 2] w (GivesShort S w) := by
  have H := Lib.hid h
  clear h
  go_enter Try.func42, Try.ntmps42
  go_wp2_with fail
  go_loopw [7] (fun s7 wx => ∃ k : Nat, s7 = .int .i64 (k : Int) ∧ k ≤ 2 ∧ Hid (Below w.heap.size w wx) ∧ Hid (∀ j, j < k → S j)) (fun s7 _ => 2 - (intOf s7).toNat)
  case atStart => exact ⟨0, rfl, by omega, Lib.hid (Below.refl _ _), Lib.hid (fun j hj => absurd hj (Nat.not_lt_zero _))⟩
  case round =>
    obtain ⟨k, rfl, hk2, HL, HS⟩ := hrel
    obtain ⟨wq, rfl⟩ : ∃ u : World, u = wr := ⟨_, rfl⟩
    by_cases hk : k < 2
    · obtain ⟨xa, xn, xc, zx, xp, xi, hc0, hc1, hc2, hrow, hip, hii, hsm⟩ := (H.out k hk).below HL.out
      have q0 : (0 : Int) ≤ (k : Int) := by omega
      have q1 : (k : Int) < 2 := by omega
      have XI := Lib.hid (And.intro hip hii)
      have HROW := Lib.hid hrow
      have HSM := Lib.hid hsm
      obtain ⟨wA, hA⟩ : ∃ u, wq.alloc (.cells #[.slice xa xn xc, .int .i64 xp, .int .i64 xi] 24) = u := ⟨_, rfl⟩
      have V1 := Lib.hid (show Cur3 wA wq.heap.size (.slice xa xn xc) (.int .i64 xp) (.int .i64 xi) by rw [← hA]; exact Cur3.new wq (.slice xa xn xc) (.int .i64 xp) (.int .i64 xi) 24)
      have hbA : Below wq.heap.size wq wA := by rw [← hA]; exact (Below.refl _ _).alloc (Nat.le_refl _) _
      have LA := Lib.hid (HL.out.trans (hbA.mono HL.out.size))
      have RA := Lib.hid (fun q => (HROW.out q).under hbA)
      have HA := Lib.hid hA
      have hNEXT : xn ≤ 800 → ∀ j, j < k + 1 → S j := fun q j hj => by
        by_cases e : j = k
        · subst e; exact HSM.out q
        · exact HS.out j (by omega)
      have HN := Lib.hid hNEXT
      clear hip hii hrow hsm hA hbA hNEXT
      go_upto_region 4 with fail
      try rw [HA.out]
      clear hc0 hc1 hc2
      obtain ⟨c0, c1, c2, f0, f1, f2⟩ := V1.out
      by_cases h60 : 60 < xn
      · have t60 : (60 : Int) < (xn : Int) := by omega
        by_cases h800 : xn ≤ 800
        · have R1 := Lib.hid (RA.out h800)
          obtain ⟨ok, hok⟩ : ∃ ok, okC zx xp xi = ok := ⟨_, rfl⟩
          have HOK := Lib.hid hok
          have H8 := Lib.hid h800
          clear hok h60 h800
          go_wp2_with fail
          refine (rvalid_any xa xn xc zx xp xi XI.out.1 XI.out.2 ok HOK.out _ R1.out).mono ?_
          rintro e w1 ⟨rfl, hb⟩
          have L1 := Lib.hid (LA.out.trans (hb.mono LA.out.size))
          have V2 := Lib.hid (V1.out.below hb)
          clear hb c0 c1 c2 f0 f1 f2
          obtain ⟨c0, c1, c2, f0, f1, f2⟩ := V2.out
          cases ok with
          | true =>
            go_wp2_with fail
            go_ret
            exact ⟨false, rfl, L1.out, fun e => by cases e⟩
          | false =>
            go_wp2_with fail
            refine (small_any xa xn xc xp xi true (decide_eq_true H8.out) _).mono ?_
            rintro e w2 ⟨rfl, hb⟩
            have L2 := Lib.hid (L1.out.trans (hb.mono L1.out.size))
            clear hb
            go_wp2_with fail
            go_roundw
            case rel => exact ⟨k + 1, by go_num, by omega, L2, Lib.hid (HN.out H8.out)⟩
            case measure => simp [intOf]; omega
        · have H8 := Lib.hid h800
          have H4 := Lib.hid (show 400 < xn by omega)
          clear h60 h800
          go_wp2_with fail
          refine (rvalid_long xa xn xc xp xi H4.out _).mono ?_
          rintro e w1 ⟨rfl, hb⟩
          have L1 := Lib.hid (LA.out.trans (hb.mono LA.out.size))
          have V2 := Lib.hid (V1.out.below hb)
          clear hb c0 c1 c2 f0 f1 f2
          obtain ⟨c0, c1, c2, f0, f1, f2⟩ := V2.out
          go_wp2_with fail
          refine (small_any xa xn xc xp xi false (decide_eq_false H8.out) _).mono ?_
          rintro e w2 ⟨rfl, hb⟩
          have L2 := Lib.hid (L1.out.trans (hb.mono L1.out.size))
          clear hb
          go_wp2_with fail
          go_ret
          exact ⟨false, rfl, L2.out, fun e => by cases e⟩
      · have t60 : ¬ (60 : Int) < (xn : Int) := by omega
        have H8 := Lib.hid (show xn ≤ 800 by omega)
        clear h60
        go_wp2_with fail
        refine (small_any xa xn xc xp xi true (decide_eq_true H8.out) _).mono ?_
        rintro e w2 ⟨rfl, hb⟩
        have L2 := Lib.hid (LA.out.trans (hb.mono LA.out.size))
        clear hb
        go_wp2_with fail
        go_roundw
        case rel => exact ⟨k + 1, by go_num, by omega, L2, Lib.hid (HN.out H8.out)⟩
        case measure => simp [intOf]; omega
    · obtain rfl : k = 2 := by omega
      go_wp2_with fail
      go_ret
      exact ⟨true, rfl, HL.out, fun _ => ⟨HS.out 0 (by omega), HS.out 1 (by omega)⟩⟩

end Go.Proofs.Ytcbocglakielnaa
