/- Hop and Output at whatever arguments: the program and the document answer the same. By the verifier's side. -/
import Derived.Test.YtkienpbmoilheaaGreatAHpLRHp
import Derived.Test.YtkienpbmoilheaaGreatARBadDecBadRDBadCE
namespace Go.Proofs.YtkienpbmoilheaaGreat
open Go.RowKit
set_option linter.unusedSimpArgs false
set_option linter.unusedVariables false

set_option maxRecDepth 100000 in
set_option maxHeartbeats 1600000 in
theorem hop_bad (a : Option Addr) (n cap : Nat) (zs : List Int) (p inc : Int) (hp : In64 p) (hi : In64 inc) (hv : okC zs p inc = false) (m : Int) (w : World) (h : RowZ w a n cap zs) :
    Calls Tryz.prog 13 #[curV a n cap p inc, .int .i64 m] w (GivesBad 1 w) := by
  obtain ⟨W, hW⟩ : ∃ W, (w.alloc (.cells #[.slice a n cap, .int .i64 p, .int .i64 inc] 24)).alloc (.cells #[.slice none 0 0, .int .i64 0, .int .i64 0] 24) = W := ⟨_, rfl⟩
  have hB : Below w.heap.size w W := by rw [← hW]; exact ((Below.refl _ _).alloc (Nat.le_refl _) _).alloc (by simp) _
  have HB := Lib.hid hB
  have KR := Lib.hid (show Cur3 W (w.heap.size + 1) (.slice none 0 0) (.int .i64 0) (.int .i64 0) by rw [← hW]; exact Cur3.new2 w _ _ _ _ _)
  have K0 := Lib.hid (show Cur3 W w.heap.size (.slice a n cap) (.int .i64 p) (.int .i64 inc) by rw [← hW]; exact (Cur3.new w _ _ _ _).alloc _)
  have HR := Lib.hid (h.under hB)
  have HW := Lib.hid hW
  have HV := Lib.hid (valid_any a n cap zs p inc hp hi false hv)
  obtain ⟨c0, c1, c2, f0, f1, f2⟩ := K0.out
  clear hB h hW hp hi hv
  go_enter Tryz.func13, Tryz.ntmps13
  go_upto_region 1 with fail
  try rw [HW.out]
  go_wp2_with fail
  clear c0 c1 c2 f0 f1 f2
  refine (HV.out _ HR.out).mono ?_
  rintro e v0 ⟨rfl, hb0⟩
  have HP := Lib.hid (GivesBad.post (b := w.heap.size + 1) HB.out (by omega) hb0 1)
  obtain ⟨r0, r1, r2, r3, r4, r5⟩ := KR.out.below hb0
  clear hb0
  go_wp2_with fail
  exact bodyPost_ret (v := .tuple #[curV none 0 0 0 0, .int .i64 1]) (by simp [results, Tryz.results13, go_sem, r0, r1, r2]) rfl HP.out

set_option maxRecDepth 100000 in
set_option maxHeartbeats 1600000 in
theorem rhop_bad (a : Option Addr) (n cap : Nat) (zs : List Int) (p inc : Int) (hp : In64 p) (hi : In64 inc) (hv : okC zs p inc = false) (m : Int) (w : World) (h : RowZ w a n cap zs) :
    Calls Tryz.prog 14 #[curV a n cap p inc, .int .i64 m] w (GivesBad 1 w) := by
  obtain ⟨W, hW⟩ : ∃ W, (w.alloc (.cells #[.slice a n cap, .int .i64 p, .int .i64 inc] 24)).alloc (.cells #[.slice none 0 0, .int .i64 0, .int .i64 0] 24) = W := ⟨_, rfl⟩
  have hB : Below w.heap.size w W := by rw [← hW]; exact ((Below.refl _ _).alloc (Nat.le_refl _) _).alloc (by simp) _
  have HB := Lib.hid hB
  have KR := Lib.hid (show Cur3 W (w.heap.size + 1) (.slice none 0 0) (.int .i64 0) (.int .i64 0) by rw [← hW]; exact Cur3.new2 w _ _ _ _ _)
  have K0 := Lib.hid (show Cur3 W w.heap.size (.slice a n cap) (.int .i64 p) (.int .i64 inc) by rw [← hW]; exact (Cur3.new w _ _ _ _).alloc _)
  have HR := Lib.hid (h.under hB)
  have HW := Lib.hid hW
  have HV := Lib.hid (rvalid_any a n cap zs p inc hp hi false hv)
  obtain ⟨c0, c1, c2, f0, f1, f2⟩ := K0.out
  clear hB h hW hp hi hv
  go_enter Tryz.func14, Tryz.ntmps14
  go_upto_region 1 with fail
  try rw [HW.out]
  go_wp2_with fail
  clear c0 c1 c2 f0 f1 f2
  refine (HV.out _ HR.out).mono ?_
  rintro e v0 ⟨rfl, hb0⟩
  have HP := Lib.hid (GivesBad.post (b := w.heap.size + 1) HB.out (by omega) hb0 1)
  obtain ⟨r0, r1, r2, r3, r4, r5⟩ := KR.out.below hb0
  clear hb0
  go_wp2_with fail
  exact bodyPost_ret (v := .tuple #[curV none 0 0 0 0, .int .i64 1]) (by simp [results, Tryz.results14, go_sem, r0, r1, r2]) rfl HP.out

set_option maxRecDepth 100000 in
set_option maxHeartbeats 1600000 in
theorem hop_far (a : Option Addr) (n cap : Nat) (zs : List Int) (p inc : Int) (hp : In64 p) (hi : In64 inc) (hv : okC zs p inc = true) (m : Int) (hm : m < 1 ∨ 1500 < m) (hm64 : In64 m) (w : World) (h : RowZ w a n cap zs) :
    Calls Tryz.prog 13 #[curV a n cap p inc, .int .i64 m] w (GivesBad 2 w) := by
  obtain ⟨W, hW⟩ : ∃ W, (w.alloc (.cells #[.slice a n cap, .int .i64 p, .int .i64 inc] 24)).alloc (.cells #[.slice none 0 0, .int .i64 0, .int .i64 0] 24) = W := ⟨_, rfl⟩
  have hB : Below w.heap.size w W := by rw [← hW]; exact ((Below.refl _ _).alloc (Nat.le_refl _) _).alloc (by simp) _
  have HB := Lib.hid hB
  have KR := Lib.hid (show Cur3 W (w.heap.size + 1) (.slice none 0 0) (.int .i64 0) (.int .i64 0) by rw [← hW]; exact Cur3.new2 w _ _ _ _ _)
  have K0 := Lib.hid (show Cur3 W w.heap.size (.slice a n cap) (.int .i64 p) (.int .i64 inc) by rw [← hW]; exact (Cur3.new w _ _ _ _).alloc _)
  have HR := Lib.hid (h.under hB)
  have HW := Lib.hid hW
  have HV := Lib.hid (valid_any a n cap zs p inc hp hi true hv)
  have HO := Lib.hid (show (decide (m < 1) || decide (1500 < m)) = true by simp; omega)
  obtain ⟨c0, c1, c2, f0, f1, f2⟩ := K0.out
  clear hB h hW hp hi hv hm
  go_enter Tryz.func13, Tryz.ntmps13
  go_upto_region 1 with fail
  try rw [HW.out]
  go_wp2_with fail
  clear c0 c1 c2 f0 f1 f2
  refine (HV.out _ HR.out).mono ?_
  rintro e v0 ⟨rfl, hb0⟩
  have HP := Lib.hid (GivesBad.post (b := w.heap.size + 1) HB.out (by omega) hb0 2)
  obtain ⟨r0, r1, r2, r3, r4, r5⟩ := KR.out.below hb0
  clear hb0
  go_wp2_with fail
  refine (outside15 m 1 1500 true HO.out _).mono ?_
  rintro e v1' ⟨rfl, rfl⟩
  go_wp2_with fail
  exact bodyPost_ret (v := .tuple #[curV none 0 0 0 0, .int .i64 2]) (by simp [results, Tryz.results13, go_sem, r0, r1, r2]) rfl HP.out

set_option maxRecDepth 100000 in
set_option maxHeartbeats 1600000 in
theorem rhop_far (a : Option Addr) (n cap : Nat) (zs : List Int) (p inc : Int) (hp : In64 p) (hi : In64 inc) (hv : okC zs p inc = true) (m : Int) (hm : m < 1 ∨ 1500 < m) (hm64 : In64 m) (w : World) (h : RowZ w a n cap zs) :
    Calls Tryz.prog 14 #[curV a n cap p inc, .int .i64 m] w (GivesBad 2 w) := by
  obtain ⟨W, hW⟩ : ∃ W, (w.alloc (.cells #[.slice a n cap, .int .i64 p, .int .i64 inc] 24)).alloc (.cells #[.slice none 0 0, .int .i64 0, .int .i64 0] 24) = W := ⟨_, rfl⟩
  have hB : Below w.heap.size w W := by rw [← hW]; exact ((Below.refl _ _).alloc (Nat.le_refl _) _).alloc (by simp) _
  have HB := Lib.hid hB
  have KR := Lib.hid (show Cur3 W (w.heap.size + 1) (.slice none 0 0) (.int .i64 0) (.int .i64 0) by rw [← hW]; exact Cur3.new2 w _ _ _ _ _)
  have K0 := Lib.hid (show Cur3 W w.heap.size (.slice a n cap) (.int .i64 p) (.int .i64 inc) by rw [← hW]; exact (Cur3.new w _ _ _ _).alloc _)
  have HR := Lib.hid (h.under hB)
  have HW := Lib.hid hW
  have HV := Lib.hid (rvalid_any a n cap zs p inc hp hi true hv)
  obtain ⟨c0, c1, c2, f0, f1, f2⟩ := K0.out
  clear hB h hW hp hi hv
  go_enter Tryz.func14, Tryz.ntmps14
  go_upto_region 1 with fail
  try rw [HW.out]
  go_wp2_with fail
  clear c0 c1 c2 f0 f1 f2
  refine (HV.out _ HR.out).mono ?_
  rintro e v0 ⟨rfl, hb0⟩
  have HP := Lib.hid (GivesBad.post (b := w.heap.size + 1) HB.out (by omega) hb0 2)
  obtain ⟨r0, r1, r2, r3, r4, r5⟩ := KR.out.below hb0
  clear hb0
  by_cases hlo : m < 1
  · have t3 : decide (m < 1) = true := decide_eq_true hlo
    go_wp2_with fail
    exact bodyPost_ret (v := .tuple #[curV none 0 0 0 0, .int .i64 2]) (by simp [results, Tryz.results14, go_sem, r0, r1, r2]) rfl HP.out
  · have hhi : (1500 : Int) < m := by omega
    have t3 : decide (m < 1) = false := decide_eq_false hlo
    have t4 : decide ((1500 : Int) < m) = true := decide_eq_true hhi
    go_wp2_with fail
    exact bodyPost_ret (v := .tuple #[curV none 0 0 0 0, .int .i64 2]) (by simp [results, Tryz.results14, go_sem, r0, r1, r2]) rfl HP.out

/-- The two answers of Hop: the same. -/
def HopU (z : List Int) (p0 i0 m : Int) (zs : List Int) (p inc c : Int) : Prop :=
  In64 p ∧ In64 inc ∧ ∀ (a : Option Addr) (n cap : Nat) (w : World), RowZ w a n cap z →
    Calls Tryz.prog 13 #[curV a n cap p0 i0, .int .i64 m] w (GivesCE zs p inc c w) ∧
    Calls Tryz.prog 14 #[curV a n cap p0 i0, .int .i64 m] w (GivesCE zs p inc c w)

theorem hop_u {z : List Int} {p0 i0 m : Int} (hp : In64 p0) (hi : In64 i0) (hm : In64 m) : ∃ (zs : List Int) (p inc c : Int), HopU z p0 i0 m zs p inc c := by
  have z64 : In64 0 := ⟨by decide, by decide⟩
  cases hv : okC z p0 i0 with
  | false => exact ⟨[], 0, 0, 1, z64, z64, fun a n cap w h => ⟨(hop_bad a n cap z p0 i0 hp hi hv m w h).mono (fun _ _ h => h.ce), (rhop_bad a n cap z p0 i0 hp hi hv m w h).mono (fun _ _ h => h.ce)⟩⟩
  | true =>
    by_cases hr : m < 1 ∨ 1500 < m
    · exact ⟨[], 0, 0, 2, z64, z64, fun a n cap w h => ⟨(hop_far a n cap z p0 i0 hp hi hv m hr hm w h).mono (fun _ _ h => h.ce), (rhop_far a n cap z p0 i0 hp hi hv m hr hm w h).mono (fun _ _ h => h.ce)⟩⟩
    · obtain ⟨q, rfl, g⟩ := okC_pos hv
      have hm2 : 1 ≤ m ∧ m ≤ 1500 := by omega
      obtain ⟨zs, p, inc, c, hc, hg⟩ := e_ex (eHop (m - 1) z q i0)
      have h64 : In64 p ∧ In64 inc := by
        rcases hc with ⟨_, q', rfl, hf⟩ | ⟨_, _, rfl, rfl, _⟩
        · have k := hf.1
          have k1 := k.p2; have k2 := k.i0; have k3 := k.i1
          exact ⟨⟨by omega, by omega⟩, ⟨by omega, by omega⟩⟩
        · exact ⟨z64, z64⟩
      exact ⟨zs, p, inc, c, h64.1, h64.2, fun a n cap w h => ⟨(hop15_ok a n cap z q i0 g m hm2 w h).mono (fun e w' h => hg w e w' h), (rhop15 a n cap z q i0 g m hm2 w h).mono (fun e w' h => hg w e w' h)⟩⟩

/-- The two answers of the deconvolution: the same. -/
def DofU (z1 : List Int) (p1 i1 : Int) (z2 : List Int) (p2 i2 : Int) (zs : List Int) (p inc c : Int) : Prop :=
  ∀ (a1 : Option Addr) (n1 cap1 : Nat) (a2 : Option Addr) (n2 cap2 : Nat) (w : World), RowZ w a1 n1 cap1 z1 → RowZ w a2 n2 cap2 z2 →
    Calls Tryz.prog 40 #[curV a1 n1 cap1 p1 i1, curV a2 n2 cap2 p2 i2] w (GivesCE zs p inc c w) ∧
    Calls Tryz.prog 41 #[curV a1 n1 cap1 p1 i1, curV a2 n2 cap2 p2 i2] w (GivesCE zs p inc c w)

theorem dofU_err {z1 : List Int} {p1 i1 : Int} {z2 : List Int} {p2 i2 : Int} (c : Int) (hc : c = 1 ∨ c = 3 ∨ c = 6)
    (hp : ∀ a1 n1 cap1 a2 n2 cap2 u, RowZ u a1 n1 cap1 z1 → RowZ u a2 n2 cap2 z2 → Calls Tryz.prog 80 #[curV a1 n1 cap1 p1 i1, curV a2 n2 cap2 p2 i2] u (GivesPBad8 c u))
    (hq : ∀ a1 n1 cap1 a2 n2 cap2 u, RowZ u a1 n1 cap1 z1 → RowZ u a2 n2 cap2 z2 → Calls Tryz.prog 64 #[curV a1 n1 cap1 p1 i1, curV a2 n2 cap2 p2 i2] u (GivesP8E c u)) :
    DofU z1 p1 i1 z2 p2 i2 [] 0 0 c := fun a1 n1 cap1 a2 n2 cap2 w h1 h2 =>
  ⟨(dof_err a1 n1 cap1 z1 p1 i1 a2 n2 cap2 z2 p2 i2 c hc (fun u => hp a1 n1 cap1 a2 n2 cap2 u) w h1 h2).mono (fun _ _ h => h.ce),
   (rof8_err a1 n1 cap1 z1 p1 i1 a2 n2 cap2 z2 p2 i2 c hc (fun u => hq a1 n1 cap1 a2 n2 cap2 u) w h1 h2).mono (fun _ _ h => h.ce)⟩

theorem dof_u {z1 : List Int} {p1 i1 : Int} (hp1 : In64 p1) (hi1 : In64 i1) {z2 : List Int} {p2 i2 : Int} (hp2 : In64 p2) (hi2 : In64 i2) :
    ∃ (zs : List Int) (p inc c : Int), In64 p ∧ In64 inc ∧ DofU z1 p1 i1 z2 p2 i2 zs p inc c := by
  have z64 : In64 0 := ⟨by decide, by decide⟩
  by_cases hv : okC z1 p1 i1 = false ∨ okC z2 p2 i2 = false
  · exact ⟨_, _, _, _, z64, z64, dofU_err 1 (.inl rfl) (fun a1 n1 cap1 a2 n2 cap2 u h1 h2 => dpaired_bad a1 n1 cap1 z1 p1 i1 hp1 hi1 a2 n2 cap2 z2 p2 i2 hp2 hi2 hv u h1 h2) (fun a1 n1 cap1 a2 n2 cap2 u h1 h2 => pair8_bad a1 n1 cap1 z1 p1 i1 hp1 hi1 a2 n2 cap2 z2 p2 i2 hp2 hi2 hv u h1 h2)⟩
  have v1 : okC z1 p1 i1 = true := by
    cases h : okC z1 p1 i1 with
    | true => rfl
    | false => exact absurd (.inl h) hv
  have v2 : okC z2 p2 i2 = true := by
    cases h : okC z2 p2 i2 with
    | true => rfl
    | false => exact absurd (.inr h) hv
  obtain ⟨q1, rfl, g1⟩ := okC_pos v1
  obtain ⟨q2, rfl, g2⟩ := okC_pos v2
  obtain ⟨y1, r1, j1, m1⟩ := g1.norm_ex
  obtain ⟨y2, r2, j2, m2⟩ := g2.norm_ex
  obtain ⟨L, hL⟩ : ∃ L, r1 / Nat.gcd r1 r2 * r2 = L := ⟨_, rfl⟩
  have hl : LcmN z1 q1 i1 z2 q2 i2 L := ⟨_, _, _, _, _, _, m1, m2, hL⟩
  have ha : atC z2 q2 i2 0 = z2.getD 0 0 := atC_lt (by have := g2.p1; have := g2.p3; omega)
  by_cases h0 : atC z2 q2 i2 0 = 0
  · by_cases h120 : 120 < L
    · exact ⟨_, _, _, _, z64, z64, dofU_err 3 (.inr (.inl rfl)) (fun a1 n1 cap1 a2 n2 cap2 u h1 h2 => dpaired_lim a1 n1 cap1 z1 q1 i1 g1 a2 n2 cap2 z2 q2 i2 g2 m1 m2 L hL h0 h120 u h1 h2) (fun a1 n1 cap1 a2 n2 cap2 u h1 h2 => pair8_lim a1 n1 cap1 z1 q1 i1 g1 a2 n2 cap2 z2 q2 i2 g2 L hl h0 h120 u h1 h2)⟩
    · have hL2 : L ≤ 120 := by omega
      obtain ⟨zs, p, inc, c, hc, hg⟩ := e_ex (eDec z1 q1 i1 z2 q2 i2)
      have h64 : In64 p ∧ In64 inc := by
        rcases hc with ⟨_, q', rfl, hf⟩ | ⟨_, _, rfl, rfl, _⟩
        · have k := hf.1
          have k1 := k.p2; have k2 := k.i0; have k3 := k.i1
          exact ⟨⟨by omega, by omega⟩, ⟨by omega, by omega⟩⟩
        · exact ⟨z64, z64⟩
      exact ⟨zs, p, inc, c, h64.1, h64.2, fun a1 n1 cap1 a2 n2 cap2 w h1 h2 =>
        ⟨(dof_ok a1 n1 cap1 z1 q1 i1 g1 a2 n2 cap2 z2 q2 i2 g2 h0 L hl hL2 w h1 h2).mono (fun e w' h => hg w e w' h),
         (rof8 a1 n1 cap1 z1 q1 i1 g1 a2 n2 cap2 z2 q2 i2 g2 h0 L hl hL2 w h1 h2).mono (fun e w' h => hg w e w' h)⟩⟩
  · rw [ha] at h0
    exact ⟨_, _, _, _, z64, z64, dofU_err 6 (.inr (.inr rfl)) (fun a1 n1 cap1 a2 n2 cap2 u h1 h2 => dpaired_state a1 n1 cap1 z1 q1 i1 hp1 hi1 a2 n2 cap2 z2 q2 i2 hp2 hi2 v1 v2 h0 u h1 h2)
      (fun a1 n1 cap1 a2 n2 cap2 u h1 h2 => pair8_state a1 n1 cap1 z1 q1 i1 g1 a2 n2 cap2 z2 q2 i2 g2 (by rw [ha]; exact h0) L hl _ _ rfl rfl u h1 h2)⟩
end Go.Proofs.YtkienpbmoilheaaGreat

namespace Go.Proofs.YtkienpbmoilheaaGreat
open Go.RowKit
set_option linter.unusedSimpArgs false
set_option linter.unusedVariables false

theorem ce_post {w w1 w2 : World} {b : Nat} (hB : Below w.heap.size w w1) (hb1 : w.heap.size ≤ b) (hb2 : b < w1.heap.size) (h2 : Below w1.heap.size w1 w2) {a : Option Addr} {n cap : Nat} {zs : List Int} {p inc : Int} (c : Int) (hr : RowZ w2 a n cap zs)
    (hx : ∀ x, a = some x → w1.heap.size ≤ x.block) :
    GivesCE zs p inc c w (.returned (.tuple #[curV a n cap p inc, .int .i64 c])) (((w2.setCell ⟨b, 0, none⟩ (.slice a n cap)).setCell ⟨b, 1, none⟩ (.int .i64 p)).setCell ⟨b, 2, none⟩ (.int .i64 inc)) := by
  have hne : ∀ x : Addr, a = some x → 1 ≤ n → x.block ≠ b := fun x h _ => by have := hx x h; omega
  exact ⟨a, n, cap, rfl, below_set3 (hB.trans (h2.mono hB.size)) hb1 _ _ _, ((hr.store hne _ _).store hne _ _).store hne _ _, fun x h => by have := hx x h; have := hB.size; omega⟩

set_option maxRecDepth 100000 in
set_option maxHeartbeats 1600000 in
theorem out_any (a1 : Option Addr) (n1 cap1 : Nat) (z1 : List Int) (p1 i1 : Int) (hp1 : In64 p1) (hi1 : In64 i1) (ok : Bool) (hv : okC z1 p1 i1 = ok) (a2 : Option Addr) (n2 cap2 : Nat) (z2 : List Int) (p2 i2 m : Int) (zs : List Int) (p inc c : Int)
    (hh : ∀ (a : Option Addr) (n cap : Nat) (w : World), RowZ w a n cap z2 → Calls Tryz.prog 13 #[curV a n cap p2 i2, .int .i64 m] w (GivesCE zs p inc c w)) (rs : List Int) (q j d : Int)
    (hd : ∀ (a1 : Option Addr) (n1 cap1 : Nat) (a2 : Option Addr) (n2 cap2 : Nat) (w : World), RowZ w a1 n1 cap1 z1 → RowZ w a2 n2 cap2 zs → Calls Tryz.prog 40 #[curV a1 n1 cap1 p1 i1, curV a2 n2 cap2 p inc] w (GivesCE rs q j d w))
    (w : World) (h1 : RowZ w a1 n1 cap1 z1) (h2 : RowZ w a2 n2 cap2 z2) :
    Calls Tryz.prog 16 #[curV a1 n1 cap1 p1 i1, curV a2 n2 cap2 p2 i2, .int .i64 m] w (fun e w' => if ok = false then GivesCE [] 0 0 1 w e w' else if c = 0 then GivesCE rs q j d w e w' else GivesCE [] 0 0 c w e w') := by
  obtain ⟨W, hW⟩ : ∃ W, ((w.alloc (.cells #[.slice a1 n1 cap1, .int .i64 p1, .int .i64 i1] 24)).alloc (.cells #[.slice a2 n2 cap2, .int .i64 p2, .int .i64 i2] 24)).alloc (.cells #[.slice none 0 0, .int .i64 0, .int .i64 0] 24) = W := ⟨_, rfl⟩
  obtain ⟨⟨hB, hWs⟩, k1, k2, kr⟩ := boxesB w a1 n1 cap1 p1 i1 a2 n2 cap2 p2 i2 hW
  have HB := Lib.hid hB
  have KR := Lib.hid kr
  have K1 := Lib.hid k1
  have K2 := Lib.hid k2
  have HR := Lib.hid (And.intro (h1.under hB) (h2.under hB))
  have HW := Lib.hid hW
  have HV := Lib.hid (valid_any a1 n1 cap1 z1 p1 i1 hp1 hi1 ok hv)
  have HH := Lib.hid hh
  have HD := Lib.hid hd
  obtain ⟨c0, c1, c2, f0, f1, f2⟩ := k1
  obtain ⟨d0, d1, d2, e0, e1, e2⟩ := k2
  clear h1 h2 hB kr hW hp1 hi1 hv hh hd
  go_enter Tryz.func16, Tryz.ntmps16
  go_upto_region 1 with fail
  try rw [HW.out]
  go_wp2_with fail
  clear c0 c1 c2 f0 f1 f2 d0 d1 d2 e0 e1 e2
  refine (HV.out _ HR.out.1).mono ?_
  rintro e v1 ⟨rfl, hb1⟩
  have B1 := Lib.hid hb1
  clear hb1
  cases ok with
  | false =>
    have HP := Lib.hid (GivesBad.post (b := w.heap.size + 2) HB.out (by omega) B1.out 1)
    obtain ⟨r0, r1, r2, r3, r4, r5⟩ := KR.out.below B1.out
    go_wp2_with fail
    exact bodyPost_ret (v := .tuple #[curV none 0 0 0 0, .int .i64 1]) (by simp [results, Tryz.results16, go_sem, r0, r1, r2]) rfl HP.out.ce
  | true =>
    obtain ⟨d0, d1, d2, e0, e1, e2⟩ := K2.out.below B1.out
    go_wp2_with fail
    clear d0 d1 d2 e0 e1 e2
    refine (HH.out a2 n2 cap2 _ (HR.out.2.under B1.out)).mono ?_
    rintro e v2 ⟨a3, n3, cap3, rfl, hb2, hr3, hx3⟩
    obtain ⟨W2, hw2⟩ : ∃ W2, v2.alloc (.cells #[.slice a3 n3 cap3, .int .i64 p, .int .i64 inc] 24) = W2 := ⟨_, rfl⟩
    have h9 : Below v2.heap.size v2 W2 := by rw [← hw2]; exact (Below.refl _ _).alloc (Nat.le_refl _) _
    have B2 := Lib.hid (show Below W.heap.size W W2 from B1.out.trans ((hb2.trans (h9.mono hb2.size)).mono B1.out.size))
    have K3 := Lib.hid (show Cur3 W2 v2.heap.size (.slice a3 n3 cap3) (.int .i64 p) (.int .i64 inc) by rw [← hw2]; exact Cur3.new v2 _ _ _ _)
    have R3 := Lib.hid (hr3.under h9)
    have HW2 := Lib.hid hw2
    clear hb2 hr3 hx3 hw2 h9
    go_upto_region 4 with fail
    try rw [HW2.out]
    by_cases hc0 : c = 0
    · subst hc0
      obtain ⟨c0, c1, c2, f0, f1, f2⟩ := K1.out.below B2.out
      obtain ⟨d0, d1, d2, e0, e1, e2⟩ := K3.out
      go_wp2_with fail
      clear c0 c1 c2 f0 f1 f2 d0 d1 d2 e0 e1 e2
      refine (HD.out a1 n1 cap1 a3 n3 cap3 _ (HR.out.1.under B2.out) R3.out).mono ?_
      rintro e v9 ⟨a9, n9, cap9, rfl, hb9, hr9, hx9⟩
      have HP := Lib.hid (ce_post (b := w.heap.size + 2) (HB.out.trans (B2.out.mono HB.out.size)) (by omega) (by have := B2.out.size; omega) hb9 (p := q) (inc := j) d hr9 hx9)
      obtain ⟨r0, r1, r2, r3, r4, r5⟩ := (KR.out.below B2.out).below hb9
      clear hb9 hr9 hx9
      go_wp2_with fail
      exact bodyPost_ret (v := .tuple #[curV a9 n9 cap9 q j, .int .i64 d]) (by simp [results, Tryz.results16, go_sem, r0, r1, r2]) rfl HP.out
    · have hcb : (c != 0) = true := by simp [hc0]
      have HP := Lib.hid (GivesBad.post (b := w.heap.size + 2) HB.out (by omega) B2.out c)
      obtain ⟨r0, r1, r2, r3, r4, r5⟩ := KR.out.below B2.out
      have HC0 := Lib.hid hc0
      go_wp2_with fail
      exact bodyPost_ret (v := .tuple #[curV none 0 0 0 0, .int .i64 c]) (by simp [results, Tryz.results16, go_sem, r0, r1, r2]) rfl HP.out.ce

set_option maxRecDepth 100000 in
set_option maxHeartbeats 1600000 in
theorem rout_any (a1 : Option Addr) (n1 cap1 : Nat) (z1 : List Int) (p1 i1 : Int) (hp1 : In64 p1) (hi1 : In64 i1) (ok : Bool) (hv : okC z1 p1 i1 = ok) (a2 : Option Addr) (n2 cap2 : Nat) (z2 : List Int) (p2 i2 m : Int) (zs : List Int) (p inc c : Int)
    (hh : ∀ (a : Option Addr) (n cap : Nat) (w : World), RowZ w a n cap z2 → Calls Tryz.prog 14 #[curV a n cap p2 i2, .int .i64 m] w (GivesCE zs p inc c w)) (rs : List Int) (q j d : Int)
    (hd : ∀ (a1 : Option Addr) (n1 cap1 : Nat) (a2 : Option Addr) (n2 cap2 : Nat) (w : World), RowZ w a1 n1 cap1 z1 → RowZ w a2 n2 cap2 zs → Calls Tryz.prog 41 #[curV a1 n1 cap1 p1 i1, curV a2 n2 cap2 p inc] w (GivesCE rs q j d w))
    (w : World) (h1 : RowZ w a1 n1 cap1 z1) (h2 : RowZ w a2 n2 cap2 z2) :
    Calls Tryz.prog 17 #[curV a1 n1 cap1 p1 i1, curV a2 n2 cap2 p2 i2, .int .i64 m] w (fun e w' => if ok = false then GivesCE [] 0 0 1 w e w' else if c = 0 then GivesCE rs q j d w e w' else GivesCE [] 0 0 c w e w') := by
  obtain ⟨W, hW⟩ : ∃ W, ((w.alloc (.cells #[.slice a1 n1 cap1, .int .i64 p1, .int .i64 i1] 24)).alloc (.cells #[.slice a2 n2 cap2, .int .i64 p2, .int .i64 i2] 24)).alloc (.cells #[.slice none 0 0, .int .i64 0, .int .i64 0] 24) = W := ⟨_, rfl⟩
  obtain ⟨⟨hB, hWs⟩, k1, k2, kr⟩ := boxesB w a1 n1 cap1 p1 i1 a2 n2 cap2 p2 i2 hW
  have HB := Lib.hid hB
  have KR := Lib.hid kr
  have K1 := Lib.hid k1
  have K2 := Lib.hid k2
  have HR := Lib.hid (And.intro (h1.under hB) (h2.under hB))
  have HW := Lib.hid hW
  have HV := Lib.hid (rvalid_any a1 n1 cap1 z1 p1 i1 hp1 hi1 ok hv)
  have HH := Lib.hid hh
  have HD := Lib.hid hd
  obtain ⟨c0, c1, c2, f0, f1, f2⟩ := k1
  obtain ⟨d0, d1, d2, e0, e1, e2⟩ := k2
  clear h1 h2 hB kr hW hp1 hi1 hv hh hd
  go_enter Tryz.func17, Tryz.ntmps17
  go_upto_region 1 with fail
  try rw [HW.out]
  go_wp2_with fail
  clear c0 c1 c2 f0 f1 f2 d0 d1 d2 e0 e1 e2
  refine (HV.out _ HR.out.1).mono ?_
  rintro e v1 ⟨rfl, hb1⟩
  have B1 := Lib.hid hb1
  clear hb1
  cases ok with
  | false =>
    have HP := Lib.hid (GivesBad.post (b := w.heap.size + 2) HB.out (by omega) B1.out 1)
    obtain ⟨r0, r1, r2, r3, r4, r5⟩ := KR.out.below B1.out
    go_wp2_with fail
    exact bodyPost_ret (v := .tuple #[curV none 0 0 0 0, .int .i64 1]) (by simp [results, Tryz.results17, go_sem, r0, r1, r2]) rfl HP.out.ce
  | true =>
    obtain ⟨d0, d1, d2, e0, e1, e2⟩ := K2.out.below B1.out
    go_wp2_with fail
    clear d0 d1 d2 e0 e1 e2
    refine (HH.out a2 n2 cap2 _ (HR.out.2.under B1.out)).mono ?_
    rintro e v2 ⟨a3, n3, cap3, rfl, hb2, hr3, hx3⟩
    obtain ⟨W2, hw2⟩ : ∃ W2, v2.alloc (.cells #[.slice a3 n3 cap3, .int .i64 p, .int .i64 inc] 24) = W2 := ⟨_, rfl⟩
    have h9 : Below v2.heap.size v2 W2 := by rw [← hw2]; exact (Below.refl _ _).alloc (Nat.le_refl _) _
    have B2 := Lib.hid (show Below W.heap.size W W2 from B1.out.trans ((hb2.trans (h9.mono hb2.size)).mono B1.out.size))
    have K3 := Lib.hid (show Cur3 W2 v2.heap.size (.slice a3 n3 cap3) (.int .i64 p) (.int .i64 inc) by rw [← hw2]; exact Cur3.new v2 _ _ _ _)
    have R3 := Lib.hid (hr3.under h9)
    have HW2 := Lib.hid hw2
    clear hb2 hr3 hx3 hw2 h9
    go_upto_region 4 with fail
    try rw [HW2.out]
    by_cases hc0 : c = 0
    · subst hc0
      obtain ⟨c0, c1, c2, f0, f1, f2⟩ := K1.out.below B2.out
      obtain ⟨d0, d1, d2, e0, e1, e2⟩ := K3.out
      go_wp2_with fail
      clear c0 c1 c2 f0 f1 f2 d0 d1 d2 e0 e1 e2
      refine (HD.out a1 n1 cap1 a3 n3 cap3 _ (HR.out.1.under B2.out) R3.out).mono ?_
      rintro e v9 ⟨a9, n9, cap9, rfl, hb9, hr9, hx9⟩
      have HP := Lib.hid (ce_post (b := w.heap.size + 2) (HB.out.trans (B2.out.mono HB.out.size)) (by omega) (by have := B2.out.size; omega) hb9 (p := q) (inc := j) d hr9 hx9)
      obtain ⟨r0, r1, r2, r3, r4, r5⟩ := (KR.out.below B2.out).below hb9
      clear hb9 hr9 hx9
      go_wp2_with fail
      exact bodyPost_ret (v := .tuple #[curV a9 n9 cap9 q j, .int .i64 d]) (by simp [results, Tryz.results17, go_sem, r0, r1, r2]) rfl HP.out
    · have hcb : (c != 0) = true := by simp [hc0]
      have HP := Lib.hid (GivesBad.post (b := w.heap.size + 2) HB.out (by omega) B2.out c)
      obtain ⟨r0, r1, r2, r3, r4, r5⟩ := KR.out.below B2.out
      have HC0 := Lib.hid hc0
      go_wp2_with fail
      exact bodyPost_ret (v := .tuple #[curV none 0 0 0 0, .int .i64 c]) (by simp [results, Tryz.results17, go_sem, r0, r1, r2]) rfl HP.out.ce

/-- The two answers of Output: the same. -/
def OutU (z1 : List Int) (p1 i1 : Int) (z2 : List Int) (p2 i2 m : Int) (zs : List Int) (p inc c : Int) : Prop :=
  In64 p ∧ In64 inc ∧ ∀ (a1 : Option Addr) (n1 cap1 : Nat) (a2 : Option Addr) (n2 cap2 : Nat) (w : World), RowZ w a1 n1 cap1 z1 → RowZ w a2 n2 cap2 z2 →
    Calls Tryz.prog 16 #[curV a1 n1 cap1 p1 i1, curV a2 n2 cap2 p2 i2, .int .i64 m] w (GivesCE zs p inc c w) ∧
    Calls Tryz.prog 17 #[curV a1 n1 cap1 p1 i1, curV a2 n2 cap2 p2 i2, .int .i64 m] w (GivesCE zs p inc c w)

theorem out_u {z1 : List Int} {p1 i1 : Int} (hp1 : In64 p1) (hi1 : In64 i1) {z2 : List Int} {p2 i2 m : Int} (hp2 : In64 p2) (hi2 : In64 i2) (hm : In64 m) : ∃ (zs : List Int) (p inc c : Int), OutU z1 p1 i1 z2 p2 i2 m zs p inc c := by
  have z64 : In64 0 := ⟨by decide, by decide⟩
  obtain ⟨zs, p, inc, c, hp, hi, hh⟩ := hop_u (z := z2) hp2 hi2 hm
  obtain ⟨rs, q, j, d, hq, hj, hd⟩ := dof_u (z1 := z1) hp1 hi1 (z2 := zs) hp hi
  have A := fun ok (hv : okC z1 p1 i1 = ok) (a1 : Option Addr) (n1 cap1 : Nat) (a2 : Option Addr) (n2 cap2 : Nat) (w : World) (h1 : RowZ w a1 n1 cap1 z1) (h2 : RowZ w a2 n2 cap2 z2) =>
    And.intro (out_any a1 n1 cap1 z1 p1 i1 hp1 hi1 ok hv a2 n2 cap2 z2 p2 i2 m zs p inc c (fun a n cap w h => (hh a n cap w h).1) rs q j d (fun a1 n1 cap1 a2 n2 cap2 w h1 h2 => (hd a1 n1 cap1 a2 n2 cap2 w h1 h2).1) w h1 h2)
      (rout_any a1 n1 cap1 z1 p1 i1 hp1 hi1 ok hv a2 n2 cap2 z2 p2 i2 m zs p inc c (fun a n cap w h => (hh a n cap w h).2) rs q j d (fun a1 n1 cap1 a2 n2 cap2 w h1 h2 => (hd a1 n1 cap1 a2 n2 cap2 w h1 h2).2) w h1 h2)
  cases hv : okC z1 p1 i1 with
  | false =>
    refine ⟨[], 0, 0, 1, z64, z64, fun a1 n1 cap1 a2 n2 cap2 w h1 h2 => ?_⟩
    have B := A false hv a1 n1 cap1 a2 n2 cap2 w h1 h2
    simp only [if_true] at B
    exact B
  | true =>
    by_cases hc : c = 0
    · refine ⟨rs, q, j, d, hq, hj, fun a1 n1 cap1 a2 n2 cap2 w h1 h2 => ?_⟩
      have B := A true hv a1 n1 cap1 a2 n2 cap2 w h1 h2
      simp only [if_pos hc, if_neg (show ¬ true = false by decide)] at B
      exact B
    · refine ⟨[], 0, 0, c, z64, z64, fun a1 n1 cap1 a2 n2 cap2 w h1 h2 => ?_⟩
      have B := A true hv a1 n1 cap1 a2 n2 cap2 w h1 h2
      simp only [if_neg hc, if_neg (show ¬ true = false by decide)] at B
      exact B
end Go.Proofs.YtkienpbmoilheaaGreat
