/- keep's Steps, the document's Same of two equal certificates, Valid of a long list. By the verifier's side. -/
import Derived.Test.YtjipmkgnndldpaaIRCo1
import Derived.Test.YtjipmkgnndldpaaIRefARefP
import Derived.Test.YtjipmkgnndldpaaIPwMPwOPwXR56M
import Derived.Test.YtjipmkgnndldpaaIConER
import Derived.Test.YtjipmkgnndldpaaIR5D
import Derived.Test.YtjipmkgnndldpaaILong
import Derived.Test.YtjipmkgnndldpaaIDecD
import Derived.Test.YtjipmkgnndldpaaIRBad
import Derived.Test.YtjipmkgnndldpaaIPwSPwU
import Derived.Test.YtjipmkgnndldpaaICE
import Derived.Test.YtjipmkgnndldpaaIBentE
import Derived.Test.YtjipmkgnndldpaaIBaseApartPickKeepS
namespace Go.Proofs.Ytjipmkgnndldpaa
open Go.RowKit
set_option linter.unusedSimpArgs false
set_option linter.unusedVariables false

/-- A curve that is read off, of which no more than its lists and numbers are told. -/
def GivesAny8 (b : Nat) (a : Option Addr) (n cap : Nat) (w : World) (e : Ending) (w' : World) : Prop :=
  ∃ (a' : Option Addr) (n' cap' : Nat) (zs : List Int) (p inc : Int), e = .returned (curV a' n' cap' p inc) ∧ SrcAt w' b a n cap ∧ Apart b w w' ∧ RowZ w' a' n' cap' zs ∧ In64 p ∧ In64 inc ∧ ∀ x, a' = some x → w.heap.size ≤ x.block

theorem RowF.apart {u v : World} {lb m b : Nat} {F : Nat → Int} (h : RowF u lb m F) (ha : Apart b u v) (hb : ¬ lb = b) : RowF v lb m F := by
  obtain ⟨h1, h2⟩ := acell ha
  exact ⟨Nat.lt_of_lt_of_le h.lt ha.size, fun i hi => ⟨(h1 lb i h.lt hb).trans (h.cell i hi).1, (h2 lb i h.lt hb).trans (h.cell i hi).2⟩⟩
theorem steps_post {b n cap m B : Nat} {a : Option Addr} {inc : Int} {w w9 : World} (HD : Held w b a n cap w9) (hS : SrcAt w b a n cap) (hbl : b < w.heap.size) (hm : m ≤ 119) (hi : In64 inc) (hr : RowF w9 B m (fun _ => 0)) (hB : w.heap.size < B) :
    GivesAny8 b a n cap w (.returned (curV (some ⟨B, 0, none⟩) m m m inc)) (((w9.setCell ⟨w.heap.size, 0, none⟩ (.slice (some ⟨B, 0, none⟩) m m)).setCell ⟨w.heap.size, 1, none⟩ (.int .i64 m)).setCell ⟨w.heap.size, 2, none⟩ (.int .i64 inc)) := by
  have H := ((HD.set hbl (p := ⟨w.heap.size, 0, none⟩) (Nat.le_refl _) (.slice (some ⟨B, 0, none⟩) m m)).set hbl (p := ⟨w.heap.size, 1, none⟩) (Nat.le_refl _) (.int .i64 m)).set hbl (p := ⟨w.heap.size, 2, none⟩) (Nat.le_refl _) (.int .i64 inc)
  have R := hr.rowZ (M := m) (Nat.le_refl _) (by omega) (fun i _ => ⟨by decide, by decide⟩)
  have q : ∀ x, some (⟨B, 0, none⟩ : Addr) = some x → 1 ≤ m → x.block ≠ w.heap.size := fun x e _ => by cases e; show B ≠ w.heap.size; omega
  exact ⟨_, m, m, _, m, inc, rfl, H.at hS, H.ap, ((R.store q _ _).store q _ _).store q _ _, ⟨by omega, by omega⟩, hi, fun x e => by cases e; show w.heap.size ≤ B; omega⟩

set_option maxRecDepth 100000 in
set_option maxHeartbeats 3200000 in
theorem steps_any (b : Nat) (a : Option Addr) (n cap : Nat) (w : World) (h : SrcAt w b a n cap) :
    Calls Try.prog 44 #[.pointer (some ⟨b, 0, none⟩)] w (GivesAny8 b a n cap w) := by
  obtain ⟨i0, hi, hz0, hz1, hz2⟩ := info_parts info_int
  have HS := Lib.hid h
  have hbl := h.lt
  have HD0 := Lib.hid (((Held.start h).alloc (.cells #[.slice none 0 0, .int .i64 0, .int .i64 0] 38)).alloc (.cells #[.int .i64 2, .int .i64 3, .int .i64 5, .int .i64 8, .int .i64 9, .int .i64 11, .int .i64 13, .int .i64 16, .int .i64 40, .int .i64 60, .int .i64 119] 3))
  have KR0 := Lib.hid ((Cur3.new w (.slice none 0 0) (.int .i64 0) (.int .i64 0) 38).alloc (.cells #[.int .i64 2, .int .i64 3, .int .i64 5, .int .i64 8, .int .i64 9, .int .i64 11, .int .i64 13, .int .i64 16, .int .i64 40, .int .i64 60, .int .i64 119] 3))
  have hbR : ¬ w.heap.size = b := by omega
  have HL := Lib.hid (list_newP (fun z => 2 ≤ z ∧ z ≤ 119) (w.alloc (.cells #[.slice none 0 0, .int .i64 0, .int .i64 0] 38)) [2, 3, 5, 8, 9, 11, 13, 16, 40, 60, 119] 3 (by decide))
  clear h
  go_enter Try.func44, Try.ntmps44
  go_wp2_with fail
  refine (pick_of (fun z => 2 ≤ z ∧ z ≤ 119) (fun z hz => ⟨by omega, by omega⟩) (w.heap.size + 1) 11 11 (by omega) (by omega) b (by omega) a n cap _ (HD0.out.at HS.out) (by have := HL.out; simpa using this)).mono ?_
  rintro e w1 ⟨z, hz, rfl, hs, he⟩
  obtain ⟨m, rfl⟩ := Int.eq_ofNat_of_zero_le (show 0 ≤ z by omega)
  have hm : m ≤ 119 := by omega
  have HD1 := Lib.hid (HD0.out.call hs he)
  have KR1 := Lib.hid (KR0.out.apart he hbR)
  have HM := Lib.hid (make_rowD m (by omega))
  have SZ1 := Lib.hid (show w.heap.size + 1 < w1.heap.size by have := he.size; simp at this; omega)
  clear hs he hz
  go_upto_region 2 with fail
  have hmk := HM.out
  refine wp_region_keeps (fun u => Hid (Held w b a n cap u ∧ Cur3 u w.heap.size (.slice none 0 0) (.int .i64 0) (.int .i64 0))) 6 2 (by kernel_rfl) (by kernel_rfl) (Lib.hid (And.intro HD1.out.drew (KR1.out.drewN 1))) (fun hHeld0 => ?_)
  refine wpAnyK_take (i := 0) (v := ?_) rfl (by kernel_rfl) (fun _ _ _ h => h) (Or.inl ⟨by rfl, ?_⟩) (by assumption) ?_
  rotate_left
  · (intro w hSw; (try dsimp only at hSw); go_simp; try with_reducible rfl)
  try simp only [Act.put, List.getElem_toArray, List.getElem_cons_zero, List.getElem_cons_succ, List.setIfInBounds_toArray, List.set_cons_zero, List.set_cons_succ]
  refine wpAnyK_take (i := 2) (v := ?_) rfl (by kernel_rfl) (fun _ _ _ h => h) (Or.inl ⟨by rfl, ?_⟩) (by assumption) ?_
  rotate_left
  · (intro w hSw; (try dsimp only at hSw); go_simp; try with_reducible rfl)
  try simp only [Act.put, List.getElem_toArray, List.getElem_cons_zero, List.getElem_cons_succ, List.setIfInBounds_toArray, List.set_cons_zero, List.set_cons_succ]
  refine wpAnyK_take (i := 3) (v := ?_) rfl (by kernel_rfl) (fun _ _ _ h => h) (Or.inl ⟨by rfl, ?_⟩) (by assumption) ?_
  rotate_left
  · (intro w hSw; (try dsimp only at hSw); go_simp; try with_reducible rfl)
  try simp only [Act.put, List.getElem_toArray, List.getElem_cons_zero, List.getElem_cons_succ, List.setIfInBounds_toArray, List.set_cons_zero, List.set_cons_succ]
  refine wpAnyK_two (i := 1) (j := 4) rfl rfl (by kernel_rfl) (fun K hK => ?_) (fun K hK => ?_)
  · go_simp
    obtain ⟨x1, hv⟩ : ∃ W', (w1.alloc (.cells (madeCells #[.int .i64 0] m) 3)).drew = W' := ⟨_, rfl⟩
    have hu : w1.drew.alloc (.cells (madeCells #[.int .i64 0] m) 3) = x1 := hv
    have hbx : Below w1.drew.heap.size w1.drew x1 := by rw [← hu]; exact (Below.refl _ _).alloc (Nat.le_refl _) _
    have R_x1 := Lib.hid (show RowF x1 w1.drew.heap.size m (fun _ => 0) by rw [← hu]; exact RowF.made w1.drew m)
    rw [hv]
    clear hu hv
    have T1 := Lib.hid (And.intro (HD1.out.drew.below hbx) ((KR1.out.drewN 1).below hbx))
    have Z1 := Lib.hid (show w1.heap.size < x1.heap.size from R_x1.out.lt)
    refine hK.out _ _ T1 (fun hHeld1 => ?_)
    clear hK K hHeld0 hbx
    try simp only [Act.put, List.getElem_toArray, List.getElem_cons_zero, List.getElem_cons_succ, List.setIfInBounds_toArray, List.set_cons_zero, List.set_cons_succ]
    refine wpAnyK_step (i := 4) rfl (by kernel_rfl) (fun K hK => ?_)
    go_simp
    with_reducible refine (n_any 40 (by omega) (by omega) b a n cap _ (T1.out.1.at HS.out)).mono ?_
    rintro e x2 ⟨r, ⟨hr0, hr1⟩, rfl, hs, he⟩
    have T2 := Lib.hid (And.intro (T1.out.1.call hs he.apart) (T1.out.2.apart he.apart hbR))
    have R2 := Lib.hid (R_x1.out.apart he.apart (by show ¬ w1.heap.size = b; have := SZ1.out; omega))
    clear hs he
    refine hK.out _ _ T2 (fun hHeld2 => ?_)
    clear hK K hHeld1
    try simp only [Act.put, List.getElem_toArray, List.getElem_cons_zero, List.getElem_cons_succ, List.setIfInBounds_toArray, List.set_cons_zero, List.set_cons_succ]
    refine wpAnyK_take (i := 5) (v := ?_) rfl (by kernel_rfl) (fun _ _ _ h => h) (Or.inl ⟨by rfl, ?_⟩) (by assumption) ?_
    rotate_left
    · (intro w hSw; (try dsimp only at hSw); go_simp; try with_reducible rfl)
    try simp only [Act.put, List.getElem_toArray, List.getElem_cons_zero, List.getElem_cons_succ, List.setIfInBounds_toArray, List.set_cons_zero, List.set_cons_succ]
    refine wpAnyK_done (by kernel_rfl) ?_
    simp only [List.drop_succ_cons, List.drop_zero]
    clear hHeld2
    have HP := Lib.hid (steps_post T2.out.1 HS.out hbl hm (show In64 (1 + r) from ⟨by omega, by omega⟩) R2.out (by show w.heap.size < w1.heap.size; have := SZ1.out; omega))
    obtain ⟨c0, c1, c2, f0, f1, f2⟩ := T2.out.2
    go_wp2_with fail
    exact bodyPost_ret (v := curV (some ⟨w1.heap.size, 0, none⟩) m m m (1 + r)) (by simp [results, Try.results44, go_sem, c0, c1, c2]) rfl HP.out
  · go_simp
    with_reducible refine (n_any 40 (by omega) (by omega) b a n cap _ (HD1.out.drew.at HS.out)).mono ?_
    rintro e x1 ⟨r, ⟨hr0, hr1⟩, rfl, hs, he⟩
    have T1 := Lib.hid (And.intro (HD1.out.drew.call hs he.apart) ((KR1.out.drewN 1).apart he.apart hbR))
    have Z1 := Lib.hid (show w.heap.size + 1 < x1.heap.size by have := he.apart.size; have := SZ1.out; have : w1.drew.heap.size = w1.heap.size := rfl; omega)
    clear hs he
    refine hK.out _ _ T1 (fun hHeld1 => ?_)
    clear hK K hHeld0
    try simp only [Act.put, List.getElem_toArray, List.getElem_cons_zero, List.getElem_cons_succ, List.setIfInBounds_toArray, List.set_cons_zero, List.set_cons_succ]
    refine wpAnyK_take (i := 5) (v := ?_) rfl (by kernel_rfl) (fun _ _ _ h => h) (Or.inl ⟨by rfl, ?_⟩) (by assumption) ?_
    rotate_left
    · (intro w hSw; (try dsimp only at hSw); go_simp; try with_reducible rfl)
    try simp only [Act.put, List.getElem_toArray, List.getElem_cons_zero, List.getElem_cons_succ, List.setIfInBounds_toArray, List.set_cons_zero, List.set_cons_succ]
    refine wpAnyK_step (i := 1) rfl (by kernel_rfl) (fun K hK => ?_)
    go_simp
    obtain ⟨x2, hv⟩ : ∃ W', x1.alloc (.cells (madeCells #[.int .i64 0] m) 3) = W' := ⟨_, rfl⟩
    have hu : x1.alloc (.cells (madeCells #[.int .i64 0] m) 3) = x2 := hv
    have hbx : Below x1.heap.size x1 x2 := by rw [← hu]; exact (Below.refl _ _).alloc (Nat.le_refl _) _
    have R_x2 := Lib.hid (show RowF x2 x1.heap.size m (fun _ => 0) by rw [← hu]; exact RowF.made x1 m)
    rw [hv]
    clear hu hv
    have T2 := Lib.hid (And.intro (T1.out.1.below hbx) (T1.out.2.below hbx))
    refine hK.out _ _ T2 (fun hHeld2 => ?_)
    clear hK K hHeld1 hbx
    try simp only [Act.put, List.getElem_toArray, List.getElem_cons_zero, List.getElem_cons_succ, List.setIfInBounds_toArray, List.set_cons_zero, List.set_cons_succ]
    refine wpAnyK_done (by kernel_rfl) ?_
    simp only [List.drop_succ_cons, List.drop_zero]
    clear hHeld2
    have HP := Lib.hid (steps_post T2.out.1 HS.out hbl hm (show In64 (1 + r) from ⟨by omega, by omega⟩) R_x2.out (by have := Z1.out; omega))
    obtain ⟨c0, c1, c2, f0, f1, f2⟩ := T2.out.2
    go_wp2_with fail
    exact bodyPost_ret (v := curV (some ⟨x1.heap.size, 0, none⟩) m m m (1 + r)) (by simp [results, Try.results44, go_sem, c0, c1, c2]) rfl HP.out

end Go.Proofs.Ytjipmkgnndldpaa
