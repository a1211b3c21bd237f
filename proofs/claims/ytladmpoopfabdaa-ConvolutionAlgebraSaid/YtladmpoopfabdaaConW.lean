/- The document's Wait(0). By the verifier's side. -/
import Derived.Test.YtladmpoopfabdaaConEG
namespace Go.Proofs.Ytladmpoopfabdaa
open Go.RowKit
set_option linter.unusedSimpArgs false
set_option linter.unusedVariables false

theorem w0_good : Good [0, 4611686018427387904] 1 0 := (okC_iff [0, 4611686018427387904] 1 0).1 (by decide)
theorem w0_inf : InfC [0, 4611686018427387904] := by rw [infC_iff]; decide
theorem w0_at (t : Nat) (ht : 1 ≤ t) : eC [0, 4611686018427387904] 1 0 t = none := eC_late w0_good w0_inf (show 2 - 1 ≤ t by omega)
theorem w0_at0 : eC [0, 4611686018427387904] 1 0 0 = some 0 := eC0_some (zs := [0, 4611686018427387904]) (p := 1) (inc := 0) (by decide)
theorem conv_w0 (zs : List Int) (p : Nat) (inc : Int) : eConv zs p inc [0, 4611686018427387904] 1 0 = eC zs p inc := oconv_unit w0_at0 w0_at
theorem w0_raw : RawE [0, 4611686018427387904] 1 0 (eC [0, 4611686018427387904] 1 0) := by
  refine .inr ⟨by decide, 1, by decide, by decide, fun j hj => ?_, fun t => ?_⟩
  · obtain rfl : j = 0 := by omega
    decide
  · by_cases h : t < 1
    · obtain rfl : t = 0 := by omega
      rw [if_pos (by omega), w0_at0]; rfl
    · rw [if_neg h, w0_at t (by omega)]

theorem row_two (u : World) (Z : Array Value) (c : Nat) (hc2 : 2 ≤ c) (hcM : c ≤ maxLen) (t : TypeId) : RowZ ((u.alloc (.cells (#[.int .i64 0, .int .i64 4611686018427387904] ++ Z) t)).drew) (some ⟨u.heap.size, 0, none⟩) 2 c [0, 4611686018427387904] := by
  refine ⟨rfl, hc2, by omega, by unfold maxLen at hcM; omega, fun i hi => ⟨_, rfl, ?_⟩, fun i hi => ?_⟩
  · have ea : ((⟨u.heap.size, 0, none⟩ : Addr).add i) = ⟨u.heap.size, i, none⟩ := by unfold Addr.add; split <;> simp_all
    rw [ea]
    show (u.alloc _).cell? _ = _
    rw [World.cell?_alloc_new]
    rcases (show i = 0 ∨ i = 1 by omega) with rfl | rfl <;> simp [Array.getElem?_append]
  · rcases (show i = 0 ∨ i = 1 by omega) with rfl | rfl <;> exact ⟨by decide, by decide⟩

set_option maxRecDepth 100000 in
set_option maxHeartbeats 1600000 in
theorem rwait0 (w : World) : Calls Try.prog 34 #[.int .i64 0] w (GivesOk (eC [0, 4611686018427387904] 1 0) w) := by
  have hmk : ∀ w : World, (Instr.makeSlice 22 (.int .i64 1) (.int .i64 1)).run Try.prog w = .ok (.slice (some ⟨w.heap.size, 0, none⟩) 1 1) (w.alloc (.cells #[.int .i64 0] 3)) := fun w => by
    have h := make_rowM 1 (by omega) w
    rw [show madeCells #[Value.int .i64 0] 1 = #[Value.int .i64 0] by simp [madeCells]; exact ⟨0, by decide, by simp⟩] at h
    exact h
  go_enter Try.func34, Try.ntmps34
  go_wp2_with fail
  obtain ⟨c, hcap⟩ : ∃ c, (Question.appendCap 2 1 3).cut (w.tape w.drawn (Question.appendCap 2 1 3)) = c := ⟨_, rfl⟩
  have hc2 : 2 ≤ c := by rw [← hcap]; exact grownCap_ge w 2 1 3
  have hcM : c ≤ maxLen := by rw [← hcap]; exact grownCap_le_maxLen w 2 1 3 (by unfold maxLen; omega)
  rw [hcap]
  clear hcap
  obtain ⟨V, hV⟩ : ∃ V, ((((w.alloc (.cells #[.slice none 0 0, .int .i64 0, .int .i64 0] 24)).alloc (.cells #[.int .i64 0] 3)).alloc (.cells #[.int .i64 4611686018427387904] 3)).alloc (.cells (#[.int .i64 0, .int .i64 4611686018427387904] ++ Builtin.zeroCells #[.int .i64 0] (c - 2)) 3)).drew = V := ⟨_, rfl⟩
  have hB : Below w.heap.size w V := by rw [← hV]; exact (((((Below.refl _ _).alloc (Nat.le_refl _) _).alloc (by simp) _).alloc (by simp; omega) _).alloc (by simp; omega) _).drew
  have hKR : Cur3 V w.heap.size (.slice none 0 0) (.int .i64 0) (.int .i64 0) := by rw [← hV]; exact ((((Cur3.new w _ _ _ _).alloc _).alloc _).alloc _).drew
  have hRow : RowZ V (some ⟨w.heap.size + 1 + 1 + 1, 0, none⟩) 2 c [0, 4611686018427387904] := by
    rw [← hV]
    have h := row_two (((w.alloc (.cells #[.slice none 0 0, .int .i64 0, .int .i64 0] 24)).alloc (.cells #[.int .i64 0] 3)).alloc (.cells #[.int .i64 4611686018427387904] 3)) (Builtin.zeroCells #[.int .i64 0] (c - 2)) c hc2 hcM 3
    rwa [show (((w.alloc (.cells #[.slice none 0 0, .int .i64 0, .int .i64 0] 24)).alloc (.cells #[.int .i64 0] 3)).alloc (.cells #[.int .i64 4611686018427387904] 3)).heap.size = w.heap.size + 1 + 1 + 1 by simp] at h
  rw [hV]
  have HB := Lib.hid hB
  have KR := Lib.hid hKR
  have HR := Lib.hid hRow
  clear hB hKR hRow hV hmk
  refine ((rmade_ok (some ⟨w.heap.size + 1 + 1 + 1, 0, none⟩) 2 c [0, 4611686018427387904] 1 0 w0_raw _ HR.out).mono fun _ _ h => h.ok (self_can w0_good)).mono ?_
  rintro e v ⟨a5, n5, cap5, zs5, p5, inc5, rfl, hb2, hr5, hf5, hx5⟩
  have HP := Lib.hid ((GivesE.post (b := w.heap.size) HB.out (by omega) KR.out.lt hb2 hr5 hx5 hf5).ok (self_can w0_good))
  obtain ⟨d0, d1, d2, e0, e1, e2⟩ := KR.out.below hb2
  clear hb2 hr5 hf5 hx5
  go_wp2_with fail
  exact bodyPost_ret (v := .tuple #[curV a5 n5 cap5 p5 inc5, .int .i64 0]) (by simp [results, Try.results34, go_sem, d0, d1, d2]) rfl HP.out

end Go.Proofs.Ytladmpoopfabdaa
