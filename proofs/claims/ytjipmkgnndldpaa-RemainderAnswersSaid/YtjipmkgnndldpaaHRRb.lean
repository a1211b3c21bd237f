/- Rest and Above of program and document at whatever curves. By the verifier's side. -/
import Derived.Test.YtjipmkgnndldpaaHRRa2
import Derived.Test.YtjipmkgnndldpaaHCE
import Derived.Test.YtjipmkgnndldpaaHBkL
namespace Go.Proofs.Ytjipmkgnndldpaa
open Go.RowKit
set_option linter.unusedSimpArgs false
set_option linter.unusedVariables false

set_option maxRecDepth 100000 in
set_option maxHeartbeats 3200000 in
theorem rrest_bad (a1 : Option Addr) (n1 cap1 : Nat) (z1 : List Int) (p1 i1 : Int) (hp1 : In64 p1) (hi1 : In64 i1) (a2 : Option Addr) (n2 cap2 : Nat) (z2 : List Int) (p2 i2 : Int) (hp2 : In64 p2) (hi2 : In64 i2) (hv : okC z1 p1 i1 = false ∨ okC z2 p2 i2 = false) (w : World) (h1 : RowZ w a1 n1 cap1 z1) (h2 : RowZ w a2 n2 cap2 z2) :
    Calls Try.prog 53 #[curV a1 n1 cap1 p1 i1, curV a2 n2 cap2 p2 i2] w (GivesBad 1 w) := by
  have HV := Lib.hid hv
  have HI := Lib.hid (And.intro (And.intro hp1 hi1) (And.intro hp2 hi2))
  obtain ⟨W, hW⟩ : ∃ W, ((w.alloc (.cells #[.slice a1 n1 cap1, .int .i64 p1, .int .i64 i1] 38)).alloc (.cells #[.slice a2 n2 cap2, .int .i64 p2, .int .i64 i2] 38)).alloc (.cells #[.slice none 0 0, .int .i64 0, .int .i64 0] 38) = W := ⟨_, rfl⟩
  obtain ⟨⟨hB, hWs⟩, k1, k2, kr⟩ := boxesB w a1 n1 cap1 p1 i1 a2 n2 cap2 p2 i2 hW
  have HB := Lib.hid hB
  have KR := Lib.hid kr
  have HR := Lib.hid (And.intro (h1.under hB) (h2.under hB))
  have HWS := Lib.hid hWs
  have hW1 := hW
  obtain ⟨m0, m1, m2, m3, m4, m5⟩ := k1
  obtain ⟨u0, u1, u2, u3, u4, u5⟩ := k2
  clear h1 h2 hB kr hW hWs hv hp1 hi1 hp2 hi2
  go_enter Try.func53, Try.ntmps53
  go_wp2_with fail
  try rw [hW1]
  clear hW1 m0 m1 m2 m3 m4 m5 u0 u1 u2 u3 u4 u5
  refine (rpair_bad a1 n1 cap1 z1 p1 i1 HI.out.1.1 HI.out.1.2 a2 n2 cap2 z2 p2 i2 HI.out.2.1 HI.out.2.2 HV.out _ HR.out.1 HR.out.2).mono ?_
  rintro e v1 ⟨b1, m1, c1, q1, j1, b2, m2, c2, q2, j2, rfl, hb⟩
  obtain ⟨W2, hw⟩ : ∃ W2, (v1.alloc (.cells #[.slice b1 m1 c1, .int .i64 q1, .int .i64 j1] 38)).alloc (.cells #[.slice b2 m2 c2, .int .i64 q2, .int .i64 j2] 38) = W2 := ⟨_, rfl⟩
  have hWz : Below W.heap.size W W2 := by rw [← hw]; exact (hb.alloc hb.size _).alloc (by have := hb.size; simp; omega) _
  have HP := Lib.hid (GivesBad.post (b := w.heap.size + 2) HB.out (by omega) hWz 1)
  obtain ⟨r0, r1, r2, r3, r4, r5⟩ := KR.out.below hWz
  clear hWz
  clear hb
  go_wp2_with fail
  try rw [hw]
  exact bodyPost_ret (v := .tuple #[curV none 0 0 0 0, .int .i64 1]) (by simp [results, Try.results53, go_sem, r0, r1, r2]) rfl HP.out

set_option maxRecDepth 100000 in
set_option maxHeartbeats 3200000 in
theorem rabove_bad (a1 : Option Addr) (n1 cap1 : Nat) (z1 : List Int) (p1 i1 : Int) (hp1 : In64 p1) (hi1 : In64 i1) (a2 : Option Addr) (n2 cap2 : Nat) (z2 : List Int) (p2 i2 : Int) (hp2 : In64 p2) (hi2 : In64 i2) (hv : okC z1 p1 i1 = false ∨ okC z2 p2 i2 = false) (w : World) (h1 : RowZ w a1 n1 cap1 z1) (h2 : RowZ w a2 n2 cap2 z2) :
    Calls Try.prog 55 #[curV a1 n1 cap1 p1 i1, curV a2 n2 cap2 p2 i2] w (GivesBad 1 w) := by
  have HV := Lib.hid hv
  have HI := Lib.hid (And.intro (And.intro hp1 hi1) (And.intro hp2 hi2))
  obtain ⟨W, hW⟩ : ∃ W, ((w.alloc (.cells #[.slice a1 n1 cap1, .int .i64 p1, .int .i64 i1] 38)).alloc (.cells #[.slice a2 n2 cap2, .int .i64 p2, .int .i64 i2] 38)).alloc (.cells #[.slice none 0 0, .int .i64 0, .int .i64 0] 38) = W := ⟨_, rfl⟩
  obtain ⟨⟨hB, hWs⟩, k1, k2, kr⟩ := boxesB w a1 n1 cap1 p1 i1 a2 n2 cap2 p2 i2 hW
  have HB := Lib.hid hB
  have KR := Lib.hid kr
  have HR := Lib.hid (And.intro (h1.under hB) (h2.under hB))
  have HWS := Lib.hid hWs
  have hW1 := hW
  obtain ⟨m0, m1, m2, m3, m4, m5⟩ := k1
  obtain ⟨u0, u1, u2, u3, u4, u5⟩ := k2
  clear h1 h2 hB kr hW hWs hv hp1 hi1 hp2 hi2
  go_enter Try.func55, Try.ntmps55
  go_wp2_with fail
  try rw [hW1]
  clear hW1 m0 m1 m2 m3 m4 m5 u0 u1 u2 u3 u4 u5
  refine (rpair_bad a1 n1 cap1 z1 p1 i1 HI.out.1.1 HI.out.1.2 a2 n2 cap2 z2 p2 i2 HI.out.2.1 HI.out.2.2 HV.out _ HR.out.1 HR.out.2).mono ?_
  rintro e v1 ⟨b1, m1, c1, q1, j1, b2, m2, c2, q2, j2, rfl, hb⟩
  obtain ⟨W2, hw⟩ : ∃ W2, (v1.alloc (.cells #[.slice b1 m1 c1, .int .i64 q1, .int .i64 j1] 38)).alloc (.cells #[.slice b2 m2 c2, .int .i64 q2, .int .i64 j2] 38) = W2 := ⟨_, rfl⟩
  have hWz : Below W.heap.size W W2 := by rw [← hw]; exact (hb.alloc hb.size _).alloc (by have := hb.size; simp; omega) _
  have HP := Lib.hid (GivesBad.post (b := w.heap.size + 2) HB.out (by omega) hWz 1)
  obtain ⟨r0, r1, r2, r3, r4, r5⟩ := KR.out.below hWz
  clear hWz
  clear hb
  go_wp2_with fail
  try rw [hw]
  exact bodyPost_ret (v := .tuple #[curV none 0 0 0 0, .int .i64 1]) (by simp [results, Try.results55, go_sem, r0, r1, r2]) rfl HP.out

set_option maxRecDepth 100000 in
set_option maxHeartbeats 3200000 in
theorem msub_bad (a1 : Option Addr) (n1 cap1 : Nat) (z1 : List Int) (p1 i1 : Int) (hp1 : In64 p1) (hi1 : In64 i1) (a2 : Option Addr) (n2 cap2 : Nat) (z2 : List Int) (p2 i2 : Int) (hp2 : In64 p2) (hi2 : In64 i2) (hv : okC z1 p1 i1 = false ∨ okC z2 p2 i2 = false) (w : World) (h1 : RowZ w a1 n1 cap1 z1) (h2 : RowZ w a2 n2 cap2 z2) :
    Calls Try.prog 132 #[curV a1 n1 cap1 p1 i1, curV a2 n2 cap2 p2 i2] w (GivesBad 1 w) := by
  obtain ⟨W, hW⟩ : ∃ W, ((w.alloc (.cells #[.slice a1 n1 cap1, .int .i64 p1, .int .i64 i1] 38)).alloc (.cells #[.slice a2 n2 cap2, .int .i64 p2, .int .i64 i2] 38)).alloc (.cells #[.slice none 0 0, .int .i64 0, .int .i64 0] 145) = W := ⟨_, rfl⟩
  have hB : Below w.heap.size w W := by rw [← hW]; exact (((Below.refl _ _).alloc (Nat.le_refl _) _).alloc (by simp) _).alloc (by simp; omega) _
  have K2 := Lib.hid (show Cur3 W (w.heap.size + 1) (.slice a2 n2 cap2) (.int .i64 p2) (.int .i64 i2) by rw [← hW]; exact (Cur3.new2 w _ _ _ _ _).alloc _)
  have KR := Lib.hid (show Cur3 W (w.heap.size + 2) (.slice none 0 0) (.int .i64 0) (.int .i64 0) by
    rw [← hW]
    have := Cur3.new2 (w.alloc (.cells #[.slice a1 n1 cap1, .int .i64 p1, .int .i64 i1] 38)) (.slice none 0 0) (.int .i64 0) (.int .i64 0) 145 (.cells #[.slice a2 n2 cap2, .int .i64 p2, .int .i64 i2] 38)
    simpa using this)
  have HR := Lib.hid (And.intro (h1.under hB) (h2.under hB))
  have HB := Lib.hid hB
  have HI := Lib.hid (And.intro (And.intro hp1 hi1) (And.intro hp2 hi2))
  have HV := Lib.hid hv
  have HW := Lib.hid hW
  clear hB hW h1 h2 hp1 hi1 hp2 hi2 hv
  go_enter Try.func132, Try.ntmps132
  go_wp2_with fail
  try rw [HW.out]
  cases hv1 : okC z1 p1 i1 with
  | false =>
    have HV1 := Lib.hid hv1
    clear hv1
    refine (valid_any a1 n1 cap1 z1 p1 i1 HI.out.1.1 HI.out.1.2 false HV1.out _ HR.out.1).mono ?_
    rintro e w1 ⟨rfl, hb⟩
    have HP := Lib.hid (GivesBad.post (b := w.heap.size + 2) HB.out (by omega) hb 1)
    obtain ⟨r0, r1, r2, f0, f1, f2⟩ := KR.out.below hb
    clear hb
    go_wp2_with fail
    exact bodyPost_ret (v := .tuple #[curV none 0 0 0 0, .int .i64 1]) (by simp [results, Try.results132, go_sem, r0, r1, r2]) rfl HP.out
  | true =>
    have HV1 := Lib.hid hv1
    have HV2 := Lib.hid (show okC z2 p2 i2 = false from HV.out.resolve_left (by rw [hv1]; decide))
    clear hv1
    refine (valid_any a1 n1 cap1 z1 p1 i1 HI.out.1.1 HI.out.1.2 true HV1.out _ HR.out.1).mono ?_
    rintro e w1 ⟨rfl, hb⟩
    have KR1 := Lib.hid (KR.out.below hb)
    have B1 := Lib.hid (HB.out.trans (hb.mono HB.out.size))
    have R1 := Lib.hid (HR.out.2.under hb)
    have HB1 := Lib.hid hb
    obtain ⟨c0, c1, c2, f0, f1, f2⟩ := K2.out.below hb
    clear hb
    go_wp2_with fail
    clear c0 c1 c2 f0 f1 f2
    refine (valid_any a2 n2 cap2 z2 p2 i2 HI.out.2.1 HI.out.2.2 false HV2.out _ R1.out).mono ?_
    rintro e w2 ⟨rfl, hb⟩
    have HP := Lib.hid (GivesBad.post (b := w.heap.size + 2) HB.out (by omega) (HB1.out.trans (hb.mono HB1.out.size)) 1)
    obtain ⟨r0, r1, r2, f0, f1, f2⟩ := KR1.out.below hb
    clear hb
    go_wp2_with fail
    exact bodyPost_ret (v := .tuple #[curV none 0 0 0 0, .int .i64 1]) (by simp [results, Try.results132, go_sem, r0, r1, r2]) rfl HP.out


set_option maxRecDepth 100000 in
set_option maxHeartbeats 3200000 in
theorem rest_bad (a1 : Option Addr) (n1 cap1 : Nat) (z1 : List Int) (p1 i1 : Int) (hp1 : In64 p1) (hi1 : In64 i1) (a2 : Option Addr) (n2 cap2 : Nat) (z2 : List Int) (p2 i2 : Int) (hp2 : In64 p2) (hi2 : In64 i2) (hv : okC z1 p1 i1 = false ∨ okC z2 p2 i2 = false) (w : World) (h1 : RowZ w a1 n1 cap1 z1) (h2 : RowZ w a2 n2 cap2 z2) :
    Calls Try.prog 52 #[curV a1 n1 cap1 p1 i1, curV a2 n2 cap2 p2 i2] w (GivesBad 1 w) := by
  have HV := Lib.hid hv
  have HI := Lib.hid (And.intro (And.intro hp1 hi1) (And.intro hp2 hi2))
  obtain ⟨W, hW⟩ : ∃ W, ((w.alloc (.cells #[.slice a1 n1 cap1, .int .i64 p1, .int .i64 i1] 38)).alloc (.cells #[.slice a2 n2 cap2, .int .i64 p2, .int .i64 i2] 38)).alloc (.cells #[.slice none 0 0, .int .i64 0, .int .i64 0] 38) = W := ⟨_, rfl⟩
  obtain ⟨⟨hB, hWs⟩, k1, k2, kr⟩ := boxesR w a1 n1 cap1 p1 i1 a2 n2 cap2 p2 i2 hW
  have HB := Lib.hid hB
  have KR := Lib.hid kr
  have K12 := Lib.hid (And.intro k1 k2)
  have HR := Lib.hid (And.intro (h1.under hB) (h2.under hB))
  have HWS := Lib.hid hWs
  have hW1 := hW
  obtain ⟨m0, m1, m2, m3, m4, m5⟩ := k1
  obtain ⟨u0, u1, u2, u3, u4, u5⟩ := k2
  clear h1 h2 hB kr hW hWs hp1 hi1 hp2 hi2 hv
  go_enter Try.func52, Try.ntmps52
  go_wp2_with fail
  try rw [hW1]
  clear hW1 m0 m1 m2 m3 m4 m5 u0 u1 u2 u3 u4 u5
  refine (msub_bad a1 n1 cap1 z1 p1 i1 HI.out.1.1 HI.out.1.2 a2 n2 cap2 z2 p2 i2 HI.out.2.1 HI.out.2.2 HV.out _ HR.out.1 HR.out.2).mono ?_
  rintro e v1 ⟨rfl, hb⟩
  have HP := Lib.hid ((GivesBad.post (b := w.heap.size + 2) HB.out (by omega) hb 1).alloc (.cells #[.slice none 0 0, .int .i64 0, .int .i64 0] 145))
  obtain ⟨r0, r1, r2, r3, r4, r5⟩ := KR.out.below hb
  have q2' : w.heap.size + 1 + 1 < v1.heap.size ∧ ¬ w.heap.size + 1 + 1 = v1.heap.size := by have := hb.size; have := HWS.out; omega
  obtain ⟨q2', q2''⟩ := q2'
  have K9 := ((KR.out.below hb).set (.slice none 0 0) (.int .i64 0) (.int .i64 0)).alloc (.cells #[.slice none 0 0, .int .i64 0, .int .i64 0] 145)
  have HK9 := Lib.hid K9
  clear hb K9
  go_wp2_with fail
  obtain ⟨r0, r1, r2, r3, r4, r5⟩ := HK9.out
  exact bodyPost_ret (v := .tuple #[curV none 0 0 0 0, .int .i64 1]) (by simp [results, Try.results52, go_sem, r0, r1, r2]) rfl HP.out

set_option maxRecDepth 100000 in
set_option maxHeartbeats 3200000 in
theorem above_bad (a1 : Option Addr) (n1 cap1 : Nat) (z1 : List Int) (p1 i1 : Int) (hp1 : In64 p1) (hi1 : In64 i1) (a2 : Option Addr) (n2 cap2 : Nat) (z2 : List Int) (p2 i2 : Int) (hp2 : In64 p2) (hi2 : In64 i2) (hv : okC z1 p1 i1 = false ∨ okC z2 p2 i2 = false) (w : World) (h1 : RowZ w a1 n1 cap1 z1) (h2 : RowZ w a2 n2 cap2 z2) :
    Calls Try.prog 54 #[curV a1 n1 cap1 p1 i1, curV a2 n2 cap2 p2 i2] w (GivesBad 1 w) := by
  have HV := Lib.hid hv
  have HI := Lib.hid (And.intro (And.intro hp1 hi1) (And.intro hp2 hi2))
  obtain ⟨W, hW⟩ : ∃ W, ((w.alloc (.cells #[.slice a1 n1 cap1, .int .i64 p1, .int .i64 i1] 38)).alloc (.cells #[.slice a2 n2 cap2, .int .i64 p2, .int .i64 i2] 38)).alloc (.cells #[.slice none 0 0, .int .i64 0, .int .i64 0] 38) = W := ⟨_, rfl⟩
  obtain ⟨⟨hB, hWs⟩, k1, k2, kr⟩ := boxesR w a1 n1 cap1 p1 i1 a2 n2 cap2 p2 i2 hW
  have HB := Lib.hid hB
  have KR := Lib.hid kr
  have K12 := Lib.hid (And.intro k1 k2)
  have HR := Lib.hid (And.intro (h1.under hB) (h2.under hB))
  have HWS := Lib.hid hWs
  have hW1 := hW
  obtain ⟨m0, m1, m2, m3, m4, m5⟩ := k1
  obtain ⟨u0, u1, u2, u3, u4, u5⟩ := k2
  clear h1 h2 hB kr hW hWs hp1 hi1 hp2 hi2 hv
  go_enter Try.func54, Try.ntmps54
  go_wp2_with fail
  try rw [hW1]
  clear hW1 m0 m1 m2 m3 m4 m5 u0 u1 u2 u3 u4 u5
  refine (msub_bad a1 n1 cap1 z1 p1 i1 HI.out.1.1 HI.out.1.2 a2 n2 cap2 z2 p2 i2 HI.out.2.1 HI.out.2.2 HV.out _ HR.out.1 HR.out.2).mono ?_
  rintro e v1 ⟨rfl, hb⟩
  have HP := Lib.hid ((GivesBad.post (b := w.heap.size + 2) HB.out (by omega) hb 1).alloc (.cells #[.slice none 0 0, .int .i64 0, .int .i64 0] 145))
  obtain ⟨r0, r1, r2, r3, r4, r5⟩ := KR.out.below hb
  have q2' : w.heap.size + 1 + 1 < v1.heap.size ∧ ¬ w.heap.size + 1 + 1 = v1.heap.size := by have := hb.size; have := HWS.out; omega
  obtain ⟨q2', q2''⟩ := q2'
  have K9 := ((KR.out.below hb).set (.slice none 0 0) (.int .i64 0) (.int .i64 0)).alloc (.cells #[.slice none 0 0, .int .i64 0, .int .i64 0] 145)
  have HK9 := Lib.hid K9
  clear hb K9
  go_wp2_with fail
  obtain ⟨r0, r1, r2, r3, r4, r5⟩ := HK9.out
  exact bodyPost_ret (v := .tuple #[curV none 0 0 0 0, .int .i64 1]) (by simp [results, Try.results54, go_sem, r0, r1, r2]) rfl HP.out

/-- The four answers of the remainder of two curves: two, each given twice. -/
def RemU (z1 : List Int) (p1 i1 : Int) (z2 : List Int) (p2 i2 : Int) (r s : Rs) : Prop :=
  ∀ (a1 : Option Addr) (n1 cap1 : Nat) (a2 : Option Addr) (n2 cap2 : Nat) (w : World), RowZ w a1 n1 cap1 z1 → RowZ w a2 n2 cap2 z2 →
    Calls Try.prog 52 #[curV a1 n1 cap1 p1 i1, curV a2 n2 cap2 p2 i2] w (GivesCE r.zs r.p r.inc r.c w) ∧
    Calls Try.prog 53 #[curV a1 n1 cap1 p1 i1, curV a2 n2 cap2 p2 i2] w (GivesCE r.zs r.p r.inc r.c w) ∧
    Calls Try.prog 54 #[curV a1 n1 cap1 p1 i1, curV a2 n2 cap2 p2 i2] w (GivesCE s.zs s.p s.inc s.c w) ∧
    Calls Try.prog 55 #[curV a1 n1 cap1 p1 i1, curV a2 n2 cap2 p2 i2] w (GivesCE s.zs s.p s.inc s.c w)
theorem rem_u {z1 : List Int} {p1 i1 : Int} (hp1 : In64 p1) (hi1 : In64 i1) {z2 : List Int} {p2 i2 : Int} (hp2 : In64 p2) (hi2 : In64 i2) :
    ∃ r s : Rs, RemU z1 p1 i1 z2 p2 i2 r s := by
  by_cases hv : okC z1 p1 i1 = false ∨ okC z2 p2 i2 = false
  · exact ⟨⟨[], 0, 0, 1⟩, ⟨[], 0, 0, 1⟩, fun a1 n1 cap1 a2 n2 cap2 w h1 h2 =>
      ⟨(rest_bad a1 n1 cap1 z1 p1 i1 hp1 hi1 a2 n2 cap2 z2 p2 i2 hp2 hi2 hv w h1 h2).mono (fun _ _ h => h.ce), (rrest_bad a1 n1 cap1 z1 p1 i1 hp1 hi1 a2 n2 cap2 z2 p2 i2 hp2 hi2 hv w h1 h2).mono (fun _ _ h => h.ce),
       (above_bad a1 n1 cap1 z1 p1 i1 hp1 hi1 a2 n2 cap2 z2 p2 i2 hp2 hi2 hv w h1 h2).mono (fun _ _ h => h.ce), (rabove_bad a1 n1 cap1 z1 p1 i1 hp1 hi1 a2 n2 cap2 z2 p2 i2 hp2 hi2 hv w h1 h2).mono (fun _ _ h => h.ce)⟩⟩
  have v1 : okC z1 p1 i1 = true := by
    cases h : okC z1 p1 i1 with
    | true => rfl
    | false => exact absurd (.inl h) hv
  have v2 : okC z2 p2 i2 = true := by
    cases h : okC z2 p2 i2 with
    | true => rfl
    | false => exact absurd (.inr h) hv
  obtain ⟨q1, rfl, g1⟩ := okC_pos v1
  obtain ⟨q2, rfl, g2⟩ := okC_pos v2
  obtain ⟨y1, r1, j1, m1⟩ := g1.norm_ex
  obtain ⟨y2, r2, j2, m2⟩ := g2.norm_ex
  obtain ⟨L, hL⟩ : ∃ L, r1 / Nat.gcd r1 r2 * r2 = L := ⟨_, rfl⟩
  have hl : LcmN z1 q1 i1 z2 q2 i2 L := ⟨_, _, _, _, _, _, m1, m2, hL⟩
  by_cases h120 : 120 < L
  · exact ⟨⟨[], 0, 0, 3⟩, ⟨[], 0, 0, 3⟩, fun a1 n1 cap1 a2 n2 cap2 w h1 h2 =>
      ⟨(rest_lim a1 n1 cap1 z1 q1 i1 g1 a2 n2 cap2 z2 q2 i2 g2 L hl h120 w h1 h2).mono (fun _ _ h => h.ce), (rrest_lim a1 n1 cap1 z1 q1 i1 g1 a2 n2 cap2 z2 q2 i2 g2 L hl h120 w h1 h2).mono (fun _ _ h => h.ce),
       (above_lim a1 n1 cap1 z1 q1 i1 g1 a2 n2 cap2 z2 q2 i2 g2 L hl h120 w h1 h2).mono (fun _ _ h => h.ce), (rabove_lim a1 n1 cap1 z1 q1 i1 g1 a2 n2 cap2 z2 q2 i2 g2 L hl h120 w h1 h2).mono (fun _ _ h => h.ce)⟩⟩
  · have hL2 : L ≤ 120 := by omega
    obtain ⟨zr, pr, ir, cr, _, kr⟩ := e_ex (eRest z1 q1 i1 z2 q2 i2)
    obtain ⟨zs, ps, is, cs, _, ks⟩ := e_ex (eAbove z1 q1 i1 z2 q2 i2)
    exact ⟨⟨zr, pr, ir, cr⟩, ⟨zs, ps, is, cs⟩, fun a1 n1 cap1 a2 n2 cap2 w h1 h2 =>
      ⟨(rest_ok a1 n1 cap1 z1 q1 i1 g1 a2 n2 cap2 z2 q2 i2 g2 L hl hL2 w h1 h2).mono (fun e w' h => kr _ e w' h), (rrest_ok a1 n1 cap1 z1 q1 i1 g1 a2 n2 cap2 z2 q2 i2 g2 L hl hL2 w h1 h2).mono (fun e w' h => kr _ e w' h),
       (above_ok a1 n1 cap1 z1 q1 i1 g1 a2 n2 cap2 z2 q2 i2 g2 L hl hL2 w h1 h2).mono (fun e w' h => ks _ e w' h), (rabove_ok a1 n1 cap1 z1 q1 i1 g1 a2 n2 cap2 z2 q2 i2 g2 L hl hL2 w h1 h2).mono (fun e w' h => ks _ e w' h)⟩⟩

end Go.Proofs.Ytjipmkgnndldpaa
