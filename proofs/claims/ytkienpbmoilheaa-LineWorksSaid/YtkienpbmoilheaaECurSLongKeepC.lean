/- Contract of curve.steady, for whatever closure with one variable. By the verifier's side. -/
import Derived.Test.YtkienpbmoilheaaECurFCurG
import Derived.Test.YtkienpbmoilheaaECurMCurN
import Derived.Deep.RegionWith
import Derived.Shelf.Abstract
import Derived.Deep.RegionHeld3
import Derived.Deep.OwnRows
import Derived.Deep.DeepCutAuto
import Derived.Test.YtkienpbmoilheaaEBaseApartPickKeepS
import Derived.Deep.AppendLies
import Derived.StillTailTactics
import Derived.RegionTactic
import Derived.Test.YtkienpbmoilheaaECurAGrow
namespace Go.Proofs.Ytkienpbmoilheaa
open Go.RowKit
set_option linter.unusedSimpArgs false

theorem make_row (s : Nat) (hs : s ≤ 1000) (w : World) : (Instr.makeSlice 22 (.int .i64 ((s : Int) + 1)) (.int .i64 ((s : Int) + 1))).run Try.prog w = .ok (.slice (some ⟨w.heap.size, 0, none⟩) (s + 1) (s + 1)) (w.alloc (.cells (madeCells #[.int .i64 0] (s + 1)) 3)) := by
  have := run_make_row' (P := Try.prog) 22 3 (.int .i64 0) 8 Try.underlying22 info_int rfl .i64 .i64 (s + 1) (by omega) (by omega) w
  simpa using this

theorem made_cell (w : World) (m i : Nat) (hi : i < m) : (w.alloc (.cells (madeCells #[.int .i64 0] m) 3)).cell? ⟨w.heap.size, i, none⟩ = some (.int .i64 0) := by
  rw [World.cell?_alloc_new]
  simp [madeCells, hi, Nat.mod_one]
theorem made_frozen (w : World) (m i : Nat) : (w.alloc (.cells (madeCells #[.int .i64 0] m) 3)).frozen? ⟨w.heap.size, i, none⟩ = false := World.frozen?_alloc_at _ _ _ _ rfl

theorem Cur3.drew {w : World} {b : Nat} {x0 x1 x2 : Value} (h : Cur3 w b x0 x1 x2) : Cur3 w.drew b x0 x1 x2 := ⟨h.c0, h.c1, h.c2, h.f0, h.f1, h.f2⟩

theorem cutA (w : World) (s : Nat) (d : Int) :
    Hid (Cur3 (((w.alloc (.cells #[.slice none 0 0, .int .i64 0, .int .i64 0] 24)).alloc (.cells (madeCells #[.int .i64 0] (s + 1)) 3)).alloc (.cells #[.slice (some ⟨w.heap.size + 1, 0, none⟩) (s + 1) (s + 1), .int .i64 1, .int .i64 d] 24)).drew (w.heap.size + 1 + 1) (.slice (some ⟨w.heap.size + 1, 0, none⟩) (s + 1) (s + 1)) (.int .i64 1) (.int .i64 d)) ∧
    Hid (Cur3 (((w.alloc (.cells #[.slice none 0 0, .int .i64 0, .int .i64 0] 24)).alloc (.cells (madeCells #[.int .i64 0] (s + 1)) 3)).alloc (.cells #[.slice (some ⟨w.heap.size + 1, 0, none⟩) (s + 1) (s + 1), .int .i64 1, .int .i64 d] 24)).drew w.heap.size (.slice none 0 0) (.int .i64 0) (.int .i64 0)) ∧
    Hid (∀ i, i < s + 1 → (((w.alloc (.cells #[.slice none 0 0, .int .i64 0, .int .i64 0] 24)).alloc (.cells (madeCells #[.int .i64 0] (s + 1)) 3)).alloc (.cells #[.slice (some ⟨w.heap.size + 1, 0, none⟩) (s + 1) (s + 1), .int .i64 1, .int .i64 d] 24)).drew.cell? ⟨w.heap.size + 1, i, none⟩ = some (.int .i64 0) ∧
      (((w.alloc (.cells #[.slice none 0 0, .int .i64 0, .int .i64 0] 24)).alloc (.cells (madeCells #[.int .i64 0] (s + 1)) 3)).alloc (.cells #[.slice (some ⟨w.heap.size + 1, 0, none⟩) (s + 1) (s + 1), .int .i64 1, .int .i64 d] 24)).drew.frozen? ⟨w.heap.size + 1, i, none⟩ = false) ∧
    Hid (Below w.heap.size w (((w.alloc (.cells #[.slice none 0 0, .int .i64 0, .int .i64 0] 24)).alloc (.cells (madeCells #[.int .i64 0] (s + 1)) 3)).alloc (.cells #[.slice (some ⟨w.heap.size + 1, 0, none⟩) (s + 1) (s + 1), .int .i64 1, .int .i64 d] 24)).drew) := by
  generalize hu : w.alloc (.cells #[.slice none 0 0, .int .i64 0, .int .i64 0] 24) = u
  have hus : u.heap.size = w.heap.size + 1 := by rw [← hu]; simp
  have hB : Below w.heap.size w u := by rw [← hu]; exact (Below.refl _ _).alloc (Nat.le_refl _) _
  have hC : Cur3 u w.heap.size (.slice none 0 0) (.int .i64 0) (.int .i64 0) := by rw [← hu]; exact Cur3.new _ _ _ _ _
  refine ⟨Cur3.drew ?_, Cur3.drew ((hC.alloc _).alloc _), fun i hi => ⟨?_, ?_⟩, ((hB.alloc (by omega) _).alloc (by simp; omega) _).drew⟩
  · have := Cur3.new (u.alloc (.cells (madeCells #[.int .i64 0] (s + 1)) 3)) (.slice (some ⟨w.heap.size + 1, 0, none⟩) (s + 1) (s + 1)) (.int .i64 1) (.int .i64 d) 24
    rwa [show (u.alloc (.cells (madeCells #[.int .i64 0] (s + 1)) 3)).heap.size = w.heap.size + 1 + 1 by simp [hus]] at this
  · have h1 := made_cell u (s + 1) i hi
    rw [hus] at h1
    exact (((Below.refl _ _).alloc (Nat.le_refl _) _).cell (lt_of_cell h1)).trans h1
  · have h0 := made_cell u (s + 1) i hi
    have h1 := made_frozen u (s + 1) i
    rw [hus] at h0 h1
    exact (((Below.refl _ _).alloc (Nat.le_refl _) _).frozen (lt_of_cell h0)).trans h1

theorem cutB (w : World) (s : Nat) (d : Int) :
    Hid (Cur3 (((w.alloc (.cells #[.slice none 0 0, .int .i64 0, .int .i64 0] 24)).alloc (.cells #[.slice (some ⟨w.heap.size + 1 + 1, 0, none⟩) (s + 1) (s + 1), .int .i64 1, .int .i64 d] 24)).alloc (.cells (madeCells #[.int .i64 0] (s + 1)) 3)).drew (w.heap.size + 1) (.slice (some ⟨w.heap.size + 1 + 1, 0, none⟩) (s + 1) (s + 1)) (.int .i64 1) (.int .i64 d)) ∧
    Hid (Cur3 (((w.alloc (.cells #[.slice none 0 0, .int .i64 0, .int .i64 0] 24)).alloc (.cells #[.slice (some ⟨w.heap.size + 1 + 1, 0, none⟩) (s + 1) (s + 1), .int .i64 1, .int .i64 d] 24)).alloc (.cells (madeCells #[.int .i64 0] (s + 1)) 3)).drew w.heap.size (.slice none 0 0) (.int .i64 0) (.int .i64 0)) ∧
    Hid (∀ i, i < s + 1 → (((w.alloc (.cells #[.slice none 0 0, .int .i64 0, .int .i64 0] 24)).alloc (.cells #[.slice (some ⟨w.heap.size + 1 + 1, 0, none⟩) (s + 1) (s + 1), .int .i64 1, .int .i64 d] 24)).alloc (.cells (madeCells #[.int .i64 0] (s + 1)) 3)).drew.cell? ⟨w.heap.size + 1 + 1, i, none⟩ = some (.int .i64 0) ∧
      (((w.alloc (.cells #[.slice none 0 0, .int .i64 0, .int .i64 0] 24)).alloc (.cells #[.slice (some ⟨w.heap.size + 1 + 1, 0, none⟩) (s + 1) (s + 1), .int .i64 1, .int .i64 d] 24)).alloc (.cells (madeCells #[.int .i64 0] (s + 1)) 3)).drew.frozen? ⟨w.heap.size + 1 + 1, i, none⟩ = false) ∧
    Hid (Below w.heap.size w (((w.alloc (.cells #[.slice none 0 0, .int .i64 0, .int .i64 0] 24)).alloc (.cells #[.slice (some ⟨w.heap.size + 1 + 1, 0, none⟩) (s + 1) (s + 1), .int .i64 1, .int .i64 d] 24)).alloc (.cells (madeCells #[.int .i64 0] (s + 1)) 3)).drew) := by
  generalize hu : w.alloc (.cells #[.slice none 0 0, .int .i64 0, .int .i64 0] 24) = u
  have hus : u.heap.size = w.heap.size + 1 := by rw [← hu]; simp
  have hB : Below w.heap.size w u := by rw [← hu]; exact (Below.refl _ _).alloc (Nat.le_refl _) _
  have hC : Cur3 u w.heap.size (.slice none 0 0) (.int .i64 0) (.int .i64 0) := by rw [← hu]; exact Cur3.new _ _ _ _ _
  have hD := Cur3.new u (.slice (some ⟨w.heap.size + 1 + 1, 0, none⟩) (s + 1) (s + 1)) (.int .i64 1) (.int .i64 d) 24
  rw [hus] at hD
  have hvs : (u.alloc (.cells #[.slice (some ⟨w.heap.size + 1 + 1, 0, none⟩) (s + 1) (s + 1), .int .i64 1, .int .i64 d] 24)).heap.size = w.heap.size + 1 + 1 := by simp [hus]
  refine ⟨Cur3.drew (hD.alloc _), Cur3.drew ((hC.alloc _).alloc _), fun i hi => ⟨?_, ?_⟩, ((hB.alloc (by omega) _).alloc (by omega) _).drew⟩
  · have h1 := made_cell (u.alloc (.cells #[.slice (some ⟨w.heap.size + 1 + 1, 0, none⟩) (s + 1) (s + 1), .int .i64 1, .int .i64 d] 24)) (s + 1) i hi
    rwa [hvs] at h1
  · have h1 := made_frozen (u.alloc (.cells #[.slice (some ⟨w.heap.size + 1 + 1, 0, none⟩) (s + 1) (s + 1), .int .i64 1, .int .i64 d] 24)) (s + 1) i
    rwa [hvs] at h1

theorem row_step {w : World} {lb m k : Nat} {f : Nat → Int} (h : ∀ i, i < m → w.cell? ⟨lb, i, none⟩ = some (.int .i64 (if i < k then f i else 0)) ∧ w.frozen? ⟨lb, i, none⟩ = false) (hk : k < m) {v : Int} (hv : f k = v) :
    ∀ i, i < m → (w.setCell ⟨lb, k, none⟩ (.int .i64 v)).drew.cell? ⟨lb, i, none⟩ = some (.int .i64 (if i < k + 1 then f i else 0)) ∧ (w.setCell ⟨lb, k, none⟩ (.int .i64 v)).drew.frozen? ⟨lb, i, none⟩ = false := by
  intro i hi
  refine ⟨?_, (World.frozen?_setCell _ _ _ _).trans (h i hi).2⟩
  show (w.setCell ⟨lb, k, none⟩ (.int .i64 v)).cell? ⟨lb, i, none⟩ = _
  by_cases he : i = k
  · subst he
    rw [World.cell?_setCell_same _ _ _ (h i hi).1, if_pos (Nat.lt_succ_self _), hv]
  · rw [World.cell?_setCell_other _ _ _ _ (show _ from fun hx => he (by cases hx; rfl)), (h i hi).1]
    by_cases hlt : i < k
    · rw [if_pos hlt, if_pos (by omega)]
    · rw [if_neg hlt, if_neg (by omega)]

/-- What a closure with one variable hands back at each tick, in every world above w. -/
def Gives1 (fid : FuncId) (rb : Nat) (f : Nat → Int) (w : World) : Prop :=
  ∀ (ti : Int) (t : Nat) (v : Int) (w' : World), ti = t → t ≤ 400 → f t = v → Below w.heap.size w w' → Calls Try.prog fid #[.int .i64 ti, .pointer (some ⟨rb, 0, none⟩)] w' fun e w'' => e = .returned (.int .i64 v) ∧ w' = w''

set_option maxRecDepth 100000 in
set_option maxHeartbeats 3200000 in
theorem steady_any (fid : FuncId) (rb : Nat) (f : Nat → Int) (hb : ∀ t, t ≤ 400 → 0 ≤ f t ∧ f t ≤ 4611686018427387904) (s : Nat) (hs : s ≤ 399) (w : World) (eg : ∀ (args : Array Value) (w : World), (callFunc fid args).run Try.prog w = .ok (.enter fid args) w) (hcl : Gives1 fid rb f w) (D : Int) (hD : f (s + 1) - f s = D) (g : Good (firsts f (s + 1)) 1 D) :
    Calls Try.prog 218 #[.int .i64 s, .func (.func fid) #[] #[.pointer (some ⟨rb, 0, none⟩)]] w (GivesNorm (firsts f (s + 1)) 1 D w) := by
  have hmk := make_row s (by omega)
  have hws : IntKind.i64.wrap ((s : Int) + 1) = (s : Int) + 1 := IntWalk.i64_in _ ⟨by omega, by omega⟩
  obtain ⟨v1, hv1⟩ : ∃ v, f (s + 1) = v := ⟨_, rfl⟩
  obtain ⟨v2, hv2⟩ : ∃ v, f s = v := ⟨_, rfl⟩
  have b1 := hb (s + 1) (by omega)
  have b2 := hb s (by omega)
  rw [hv1] at b1
  rw [hv2] at b2
  have hwD : IntKind.i64.wrap (v1 - v2) = v1 - v2 := IntWalk.i64_in _ ⟨by omega, by omega⟩
  have HV := Lib.hid (And.intro hv1 hv2)
  have HG := Lib.hid g
  have HBB := Lib.hid hb
  have HCL := Lib.hid hcl
  have hDD : v1 - v2 = D := by rw [← hD, hv1, hv2]
  subst hDD
  clear hv1 hv2 hD g hb hcl b1 b2
  go_enter Try.func218, Try.ntmps218
  go_wp2_with fail
  go_cut [5] (fun s5 wx => ∃ S lb : Nat, s5 = .pointer (some ⟨S, 0, none⟩) ∧ w.heap.size < S ∧ w.heap.size < lb ∧ ¬ S = lb ∧ Hid (Cur3 wx S (.slice (some ⟨lb, 0, none⟩) (s + 1) (s + 1)) (.int .i64 1) (.int .i64 (v1 - v2))) ∧
    Hid (Cur3 wx w.heap.size (.slice none 0 0) (.int .i64 0) (.int .i64 0)) ∧ Hid (∀ i, i < s + 1 → wx.cell? ⟨lb, i, none⟩ = some (.int .i64 0) ∧ wx.frozen? ⟨lb, i, none⟩ = false) ∧ Hid (Below w.heap.size w wx))
  case first =>
    go_region_with (first
      | (go_at_fn fid; (refine (HCL.out ((s : Int) + 1) (s + 1) v1 _ (by omega) (by omega) HV.out.1 ?_).mono ?_); (focus (repeat (first | exact Below.refl _ _ | refine Below.drew ?_ | (refine Below.alloc ?_ (by simp; try omega) _)))); (rintro e w1 ⟨rfl, rfl⟩))
      | (go_at_fn fid; (refine (HCL.out (s : Int) s v2 _ rfl (by omega) HV.out.2 ?_).mono ?_); (focus (repeat (first | exact Below.refl _ _ | refine Below.drew ?_ | (refine Below.alloc ?_ (by simp; try omega) _)))); (rintro e w1 ⟨rfl, rfl⟩)))
    all_goals go_wp2_with fail
    all_goals go_meet
    all_goals first
      | exact ⟨w.heap.size + 1 + 1, w.heap.size + 1, rfl, by omega, by omega, by omega, (cutA w s (v1 - v2)).1, (cutA w s (v1 - v2)).2.1, (cutA w s (v1 - v2)).2.2.1, (cutA w s (v1 - v2)).2.2.2⟩
      | exact ⟨w.heap.size + 1, w.heap.size + 1 + 1, rfl, by omega, by omega, by omega, (cutB w s (v1 - v2)).1, (cutB w s (v1 - v2)).2.1, (cutB w s (v1 - v2)).2.2.1, (cutB w s (v1 - v2)).2.2.2⟩
  case rest =>
    obtain ⟨S, lb, rfl, hS, hlb, hne, HS, HR, HZ, HB⟩ := hcut
    obtain ⟨w0, rfl⟩ : ∃ u : World, u = wc := ⟨_, rfl⟩
    obtain ⟨c0, c1, c2, f0, f1, f2⟩ := HS.out
    go_wp2_with fail
    clear c0 c1 c2 f0 f1 f2
    go_loopw [22] (fun s22 wx => ∃ k : Nat, s22 = .int .i64 k ∧ k ≤ s + 1 ∧ Hid (Cur3 wx S (.slice (some ⟨lb, 0, none⟩) (s + 1) (s + 1)) (.int .i64 1) (.int .i64 (v1 - v2))) ∧
      Hid (Cur3 wx w.heap.size (.slice none 0 0) (.int .i64 0) (.int .i64 0)) ∧ Hid (∀ i, i < s + 1 → wx.cell? ⟨lb, i, none⟩ = some (.int .i64 (if i < k then f i else 0)) ∧ wx.frozen? ⟨lb, i, none⟩ = false) ∧ Hid (Below w.heap.size w wx)) (fun s22 _ => s + 1 - (intOf s22).toNat)
    case atStart => exact ⟨0, by go_num, Nat.zero_le _, HS, HR, fun i hi => by rw [if_neg (Nat.not_lt_zero _)]; exact HZ.out i hi, HB⟩
    case round =>
      obtain ⟨k, rfl, hk, KS, KR, KZ, KB⟩ := hrel
      obtain ⟨w1, rfl⟩ : ∃ u : World, u = wr := ⟨_, rfl⟩
      obtain ⟨c0, c1, c2, f0, f1, f2⟩ := KS.out
      by_cases hlt : k < s + 1
      · have hlt2 : (k : Int) < (s : Int) + 1 := by omega
        obtain ⟨v, hv⟩ : ∃ v, f k = v := ⟨_, rfl⟩
        have HV3 := Lib.hid hv
        obtain ⟨z0, z1⟩ := KZ.out k hlt
        clear hv
        go_wp2_with fail
        go_region_with (first
          | (go_at_fn fid; (refine (HCL.out (k : Int) k v _ rfl (by omega) HV3.out ?_).mono ?_); (focus (repeat (first | exact KB.out | refine Below.drew ?_))); (rintro e w1 ⟨rfl, rfl⟩)))
        all_goals go_wp2_with fail
        all_goals
          refine ⟨⟨k + 1, by go_num, by omega, ?_, ?_, ?_, ?_⟩, by simp [intOf]; omega⟩
          · exact Cur3.drew (KS.out.other hne _ _)
          · exact Cur3.drew (KR.out.other (by omega) _ _)
          · exact row_step KZ.out hlt HV3.out
          · exact (KB.out.setCell (by show w.heap.size ≤ lb; omega) _).drew
      · obtain rfl : k = s + 1 := by omega
        have hlt2 : ¬ ((s : Int) + 1 < (s : Int) + 1) := by omega
        have hrow : RowZ w1 (some ⟨lb, 0, none⟩) (s + 1) (s + 1) (firsts f (s + 1)) := ⟨firsts_length _ _, Nat.le_refl _, by omega, by omega, fun i hi => ⟨_, rfl, by
          have ea : ((⟨lb, 0, none⟩ : Addr).add i) = ⟨lb, i, none⟩ := by unfold Addr.add; split <;> simp_all
          rw [ea, firsts_getD _ _ _ hi, (KZ.out i hi).1, if_pos hi]⟩, fun i hi => by rw [firsts_getD _ _ _ hi]; have := HBB.out i (by omega); exact ⟨by omega, by omega⟩⟩
        have HRW := Lib.hid hrow
        clear hrow
        go_wp2_with fail
        refine (reduced_any (some ⟨lb, 0, none⟩) (s + 1) (s + 1) (firsts f (s + 1)) 1 (v1 - v2) HG.out _ HRW.out).mono ?_
        rintro e w2 ⟨a', n', cap', zs', p', inc', rfl, hb2, hr2, hn2, hx2⟩
        clear c0 c1 c2 f0 f1 f2
        obtain ⟨c0, c1, c2, f0, f1, f2⟩ := KR.out.below hb2
        have hlt3 := KR.out.lt
        have HP := Lib.hid (norm_post (b := w.heap.size) (KB.out.trans (hb2.mono KB.out.size)) (Nat.le_refl _) hr2 (fun y hy => by have := hx2 y hy; omega) p' inc' hn2)
        clear hb2 hr2 hn2 hx2 hlt3
        go_wp2_with fail
        exact bodyPost_ret (v := curV a' n' cap' p' inc') (by simp [results, Try.results218, go_sem, c0, c1, c2]) rfl HP.out

end Go.Proofs.Ytkienpbmoilheaa

namespace Go.Proofs.Ytkienpbmoilheaa
open Go.RowKit
set_option linter.unusedSimpArgs false

theorem owns_cell {w : World} {base g cap k : Nat} {zs : List Int} (h : w.ownsRow base 3 1 (.slice (some ⟨g, 0, none⟩) k cap) k (zs.map (Value.int .i64))) {i : Nat} (hi : i < zs.length) : w.cell? ⟨g, i, none⟩ = some (.int .i64 (zs.getD i 0)) := by
  have h1 := h.cells (g := g) rfl i (.int .i64 (zs.getD i 0)) (by simp [List.getD, hi])
  have ea : ((⟨g, 0, none⟩ : Addr).add i) = ⟨g, i, none⟩ := by unfold Addr.add; split <;> simp_all
  rwa [ea] at h1


theorem RowZ.drew {w : World} {a : Option Addr} {n cap : Nat} {zs : List Int} (h : RowZ w a n cap zs) : RowZ w.drew a n cap zs := ⟨h.len, h.le, h.sm, h.cm, h.cell, h.bd⟩

end Go.Proofs.Ytkienpbmoilheaa

namespace Go.Proofs.Ytkienpbmoilheaa
open Go.RowKit
set_option linter.unusedSimpArgs false

/-- The reader's block in a later world, in which of the elder blocks only it has turned. -/
structure Held (w : World) (b : Nat) (a : Option Addr) (n cap : Nat) (w' : World) : Prop where
  src : ∃ k : Nat, k ≤ n ∧ w'.heap[b]? = some (.cells #[.slice a n cap, .int .i64 k] 114 (0, 0))
  ap : Apart b w w'

theorem Held.start {w : World} {b : Nat} {a : Option Addr} {n cap : Nat} (h : SrcAt w b a n cap) : Held w b a n cap w := ⟨h.src, Apart.refl _ _⟩
theorem Held.at {w w' : World} {b : Nat} {a : Option Addr} {n cap : Nat} (h : Held w b a n cap w') (hs : SrcAt w b a n cap) : SrcAt w' b a n cap := hs.mk2 h.ap h.src
theorem Held.lt {w w' : World} {b : Nat} {a : Option Addr} {n cap : Nat} (h : Held w b a n cap w') : b < w'.heap.size := by
  obtain ⟨k, _, hb⟩ := h.src
  rcases Nat.lt_or_ge b w'.heap.size with h' | h'
  · exact h'
  · simp [Array.getElem?_eq_none h'] at hb
theorem Held.call {w u v : World} {b : Nat} {a : Option Addr} {n cap : Nat} (h : Held w b a n cap u) (hs : SrcAt v b a n cap) (ha : Apart b u v) : Held w b a n cap v := ⟨hs.src, h.ap.trans ha⟩
theorem Held.alloc {w u : World} {b : Nat} {a : Option Addr} {n cap : Nat} (h : Held w b a n cap u) (o : Obj) : Held w b a n cap (u.alloc o) := by
  have hb : Below u.heap.size u (u.alloc o) := (Below.refl _ _).alloc (Nat.le_refl _) _
  obtain ⟨k, hk, hs⟩ := h.src
  exact ⟨⟨k, hk, (hb.block b h.lt).trans hs⟩, h.ap.alloc o⟩
theorem Held.drew {w u : World} {b : Nat} {a : Option Addr} {n cap : Nat} (h : Held w b a n cap u) : Held w b a n cap u.drew := ⟨h.src, ⟨h.ap.os, h.ap.tape, h.ap.output, h.ap.size, h.ap.block⟩⟩
theorem Held.drewN {w u : World} {b : Nat} {a : Option Addr} {n cap : Nat} (h : Held w b a n cap u) (m : Nat) : Held w b a n cap (u.drewN m) := ⟨h.src, h.ap.drewN m⟩
theorem Held.set {w u : World} {b : Nat} {a : Option Addr} {n cap : Nat} (h : Held w b a n cap u) (hb : b < w.heap.size) {p : Addr} (hp : w.heap.size ≤ p.block) (v : Value) : Held w b a n cap (u.setCell p v) := by
  obtain ⟨k, hk, hs⟩ := h.src
  exact ⟨⟨k, hk, (Below.heap_setCell _ _ _ _ (by omega)).trans hs⟩, h.ap.setNew hp v⟩
theorem Held.grown {w u v : World} {b : Nat} {a : Option Addr} {n cap : Nat} (h : Held w b a n cap u) (hb : b < w.heap.size) {row : Option Nat} (hg : u.grownBy v row) (hr : ∀ j, row = some j → w.heap.size ≤ j) : Held w b a n cap v := by
  obtain ⟨k, hk, hs⟩ := h.src
  exact ⟨⟨k, hk, (hg.block b h.lt (fun e => by have := hr b e.symm; omega)).trans hs⟩, h.ap.grown hg hr⟩
theorem Held.below {w u v : World} {b : Nat} {a : Option Addr} {n cap : Nat} (h : Held w b a n cap u) (hb : Below u.heap.size u v) : Held w b a n cap v := by
  obtain ⟨k, hk, hs⟩ := h.src
  exact ⟨⟨k, hk, (hb.block b h.lt).trans hs⟩, h.ap.trans (below_apart hb)⟩

theorem RowZ.else {w w' : World} {g k cap b : Nat} {zs : List Int} (h : RowZ w (some ⟨g, 0, none⟩) k cap zs) (he : Else b w w') (hg : ¬ g = b) : RowZ w' (some ⟨g, 0, none⟩) k cap zs :=
  ⟨h.len, h.le, h.sm, h.cm, fun i hi => by
    obtain ⟨x, h1, h2⟩ := h.cell i hi
    refine ⟨x, h1, (he.cell ?_).trans h2⟩
    rw [add_block]; cases h1; exact hg, h.bd⟩
/-- What stands while the increment is reckoned: the reader, the curve's box and row, the result's box. -/
structure Mk (w : World) (b : Nat) (a : Option Addr) (n cap g N cap' p : Nat) (zs : List Int) (w' : World) : Prop where
  held : Held w b a n cap w'
  box : ∃ x2, Cur3 w' (w.heap.size + 1) (.slice (some ⟨g, 0, none⟩) N cap') (.int .i64 p) x2
  res : Cur3 w' w.heap.size (.slice none 0 0) (.int .i64 0) (.int .i64 0)
  row : w'.ownsRow (w.heap.size + 1 + 1) 3 1 (.slice (some ⟨g, 0, none⟩) N cap') N (zs.map (Value.int .i64))

theorem Cur3.drew' {w : World} {b : Nat} {x0 x1 x2 : Value} (h : Cur3 w b x0 x1 x2) : Cur3 w.drew b x0 x1 x2 := ⟨h.c0, h.c1, h.c2, h.f0, h.f1, h.f2⟩
theorem Mk.drew {w u : World} {b n cap g N cap' p : Nat} {a : Option Addr} {zs : List Int} (h : Mk w b a n cap g N cap' p zs u) : Mk w b a n cap g N cap' p zs u.drew := by
  obtain ⟨x2, hx⟩ := h.box
  exact ⟨h.held.drew, ⟨x2, hx.drew'⟩, h.res.drew', h.row⟩
theorem Mk.alloc {w u : World} {b n cap g N cap' p : Nat} {a : Option Addr} {zs : List Int} (h : Mk w b a n cap g N cap' p zs u) (o : Obj) : Mk w b a n cap g N cap' p zs (u.alloc o) := by
  obtain ⟨x2, hx⟩ := h.box
  exact ⟨h.held.alloc o, ⟨x2, hx.alloc o⟩, h.res.alloc o, h.row.alloc o⟩
theorem Mk.call {w u v : World} {b n cap g N cap' p : Nat} {a : Option Addr} {zs : List Int} (h : Mk w b a n cap g N cap' p zs u) (hb : b < w.heap.size) (hs : SrcAt v b a n cap) (he : Apart b u v) : Mk w b a n cap g N cap' p zs v := by
  obtain ⟨x2, hx⟩ := h.box
  exact ⟨h.held.call hs he, ⟨x2, hx.apart he (by omega)⟩, h.res.apart he (by omega), owns_apart h.row he (by omega)⟩
/-- The cells that are read, and all that stands. -/
abbrev S9 (w : World) (b : Nat) (a : Option Addr) (n cap g N cap' p j i : Nat) (l m : Int) (zs : List Int) (w' : World) : Prop :=
  w'.cell? ⟨w.heap.size + 1, 0, none⟩ = some (.slice (some ⟨g, 0, none⟩) N cap') ∧ w'.cell? ⟨w.heap.size + 1, 1, none⟩ = some (.int .i64 p) ∧ w'.cell? ⟨g, j, none⟩ = some (.int .i64 l) ∧ w'.cell? ⟨g, i, none⟩ = some (.int .i64 m) ∧ Hid (Mk w b a n cap g N cap' p zs w')
theorem Mk.s9 {w u : World} {b n cap g N cap' p j i : Nat} {l m : Int} {a : Option Addr} {zs : List Int} (h : Mk w b a n cap g N cap' p zs u) (hl : zs.length = N) (hj : j < N) (hi : i < N) (el : zs.getD j 0 = l) (em : zs.getD i 0 = m) : S9 w b a n cap g N cap' p j i l m zs u := by
  obtain ⟨x2, hx⟩ := h.box
  exact ⟨hx.c0, hx.c1, by rw [← el]; exact owns_cell h.row (by omega), by rw [← em]; exact owns_cell h.row (by omega), h⟩
end Go.Proofs.Ytkienpbmoilheaa
