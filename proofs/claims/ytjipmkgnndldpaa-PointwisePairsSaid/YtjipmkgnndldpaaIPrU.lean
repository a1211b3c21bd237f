/- Sum, Minimum and Maximum of program and document at whatever curves. By the verifier's side. -/
import Derived.Test.YtjipmkgnndldpaaIRBad
import Derived.Test.YtjipmkgnndldpaaISvU
import Derived.Test.YtjipmkgnndldpaaICloR
import Derived.Test.YtjipmkgnndldpaaICE
import Derived.Test.YtjipmkgnndldpaaIBkL
namespace Go.Proofs.Ytjipmkgnndldpaa
open Go.RowKit
set_option linter.unusedSimpArgs false
set_option linter.unusedVariables false

set_option maxRecDepth 100000 in
set_option maxHeartbeats 3200000 in
theorem rext_bad (a1 : Option Addr) (n1 cap1 : Nat) (z1 : List Int) (p1 i1 : Int) (hp1 : In64 p1) (hi1 : In64 i1) (a2 : Option Addr) (n2 cap2 : Nat) (z2 : List Int) (p2 i2 : Int) (hp2 : In64 p2) (hi2 : In64 i2) (hv : okC z1 p1 i1 = false ∨ okC z2 p2 i2 = false) (bb : Bool) (w : World) (h1 : RowZ w a1 n1 cap1 z1) (h2 : RowZ w a2 n2 cap2 z2) :
    Calls Try.prog 130 #[curV a1 n1 cap1 p1 i1, curV a2 n2 cap2 p2 i2, .bool bb] w (GivesBad 1 w) := by
  have HV := Lib.hid hv
  have HI := Lib.hid (And.intro (And.intro hp1 hi1) (And.intro hp2 hi2))
  obtain ⟨W, hW⟩ : ∃ W, ((w.alloc (.cells #[.slice a1 n1 cap1, .int .i64 p1, .int .i64 i1] 38)).alloc (.cells #[.slice a2 n2 cap2, .int .i64 p2, .int .i64 i2] 38)).alloc (.cells #[.slice none 0 0, .int .i64 0, .int .i64 0] 38) = W := ⟨_, rfl⟩
  obtain ⟨⟨hB, hWs⟩, k1, k2, kr⟩ := boxesB w a1 n1 cap1 p1 i1 a2 n2 cap2 p2 i2 hW
  have HB := Lib.hid hB
  have KR := Lib.hid kr
  have HR := Lib.hid (And.intro (h1.under hB) (h2.under hB))
  have HWS := Lib.hid hWs
  have hW1 := hW
  obtain ⟨m0, m1, m2, m3, m4, m5⟩ := k1
  obtain ⟨u0, u1, u2, u3, u4, u5⟩ := k2
  clear h1 h2 hB kr hW hWs hv hp1 hi1 hp2 hi2
  go_enter Try.func130, Try.ntmps130
  go_wp2_with fail
  try rw [hW1]
  clear hW1 m0 m1 m2 m3 m4 m5 u0 u1 u2 u3 u4 u5
  refine (rpair_bad a1 n1 cap1 z1 p1 i1 HI.out.1.1 HI.out.1.2 a2 n2 cap2 z2 p2 i2 HI.out.2.1 HI.out.2.2 HV.out _ HR.out.1 HR.out.2).mono ?_
  rintro e v1 ⟨b1, m1, c1, q1, j1, b2, m2, c2, q2, j2, rfl, hb⟩
  obtain ⟨W2, hw⟩ : ∃ W2, (v1.alloc (.cells #[.slice b1 m1 c1, .int .i64 q1, .int .i64 j1] 38)).alloc (.cells #[.slice b2 m2 c2, .int .i64 q2, .int .i64 j2] 38) = W2 := ⟨_, rfl⟩
  have hWz : Below W.heap.size W W2 := by rw [← hw]; exact (hb.alloc hb.size _).alloc (by have := hb.size; simp; omega) _
  have HP := Lib.hid (GivesBad.post (b := w.heap.size + 2) HB.out (by omega) hWz 1)
  obtain ⟨r0, r1, r2, r3, r4, r5⟩ := KR.out.below hWz
  clear hWz
  clear hb
  go_wp2_with fail
  try rw [hw]
  exact bodyPost_ret (v := .tuple #[curV none 0 0 0 0, .int .i64 1]) (by simp [results, Try.results130, go_sem, r0, r1, r2]) rfl HP.out

set_option maxRecDepth 100000 in
set_option maxHeartbeats 3200000 in
theorem rmin_bad (a1 : Option Addr) (n1 cap1 : Nat) (z1 : List Int) (p1 i1 : Int) (hp1 : In64 p1) (hi1 : In64 i1) (a2 : Option Addr) (n2 cap2 : Nat) (z2 : List Int) (p2 i2 : Int) (hp2 : In64 p2) (hi2 : In64 i2) (hv : okC z1 p1 i1 = false ∨ okC z2 p2 i2 = false) (w : World) (h1 : RowZ w a1 n1 cap1 z1) (h2 : RowZ w a2 n2 cap2 z2) :
    Calls Try.prog 48 #[curV a1 n1 cap1 p1 i1, curV a2 n2 cap2 p2 i2] w (GivesBad 1 w) := by
  have HX := Lib.hid (show ∀ u, RowZ u a1 n1 cap1 z1 → RowZ u a2 n2 cap2 z2 → Calls Try.prog 130 #[curV a1 n1 cap1 p1 i1, curV a2 n2 cap2 p2 i2, .bool true] u (GivesBad 1 u) from fun u r1 r2 => rext_bad a1 n1 cap1 z1 p1 i1 hp1 hi1 a2 n2 cap2 z2 p2 i2 hp2 hi2 hv true u r1 r2)
  obtain ⟨W, hW⟩ : ∃ W, ((w.alloc (.cells #[.slice a1 n1 cap1, .int .i64 p1, .int .i64 i1] 38)).alloc (.cells #[.slice a2 n2 cap2, .int .i64 p2, .int .i64 i2] 38)).alloc (.cells #[.slice none 0 0, .int .i64 0, .int .i64 0] 38) = W := ⟨_, rfl⟩
  obtain ⟨⟨hB, hWs⟩, k1, k2, kr⟩ := boxesB w a1 n1 cap1 p1 i1 a2 n2 cap2 p2 i2 hW
  have HB := Lib.hid hB
  have KR := Lib.hid kr
  have HR := Lib.hid (And.intro (h1.under hB) (h2.under hB))
  have HW := Lib.hid hW
  obtain ⟨m0, m1, m2, m3, m4, m5⟩ := k1
  obtain ⟨u0, u1, u2, u3, u4, u5⟩ := k2
  clear h1 h2 hB kr hW hWs hp1 hi1 hp2 hi2 hv
  go_enter Try.func48, Try.ntmps48
  go_upto_region 1 with fail
  try rw [HW.out]
  go_wp2_with fail
  clear m0 m1 m2 m3 m4 m5 u0 u1 u2 u3 u4 u5
  refine (HX.out _ HR.out.1 HR.out.2).mono ?_
  rintro e v2 ⟨rfl, hb2⟩
  have HP := Lib.hid (GivesBad.post (b := w.heap.size + 2) HB.out (by omega) hb2 1)
  obtain ⟨d0, d1, d2, e0, e1, e2⟩ := KR.out.below hb2
  clear hb2
  go_wp2_with fail
  exact bodyPost_ret (v := .tuple #[curV none 0 0 0 0, .int .i64 1]) (by simp [results, Try.results48, go_sem, d0, d1, d2]) rfl HP.out

set_option maxRecDepth 100000 in
set_option maxHeartbeats 3200000 in
theorem rmax_bad (a1 : Option Addr) (n1 cap1 : Nat) (z1 : List Int) (p1 i1 : Int) (hp1 : In64 p1) (hi1 : In64 i1) (a2 : Option Addr) (n2 cap2 : Nat) (z2 : List Int) (p2 i2 : Int) (hp2 : In64 p2) (hi2 : In64 i2) (hv : okC z1 p1 i1 = false ∨ okC z2 p2 i2 = false) (w : World) (h1 : RowZ w a1 n1 cap1 z1) (h2 : RowZ w a2 n2 cap2 z2) :
    Calls Try.prog 50 #[curV a1 n1 cap1 p1 i1, curV a2 n2 cap2 p2 i2] w (GivesBad 1 w) := by
  have HX := Lib.hid (show ∀ u, RowZ u a1 n1 cap1 z1 → RowZ u a2 n2 cap2 z2 → Calls Try.prog 130 #[curV a1 n1 cap1 p1 i1, curV a2 n2 cap2 p2 i2, .bool false] u (GivesBad 1 u) from fun u r1 r2 => rext_bad a1 n1 cap1 z1 p1 i1 hp1 hi1 a2 n2 cap2 z2 p2 i2 hp2 hi2 hv false u r1 r2)
  obtain ⟨W, hW⟩ : ∃ W, ((w.alloc (.cells #[.slice a1 n1 cap1, .int .i64 p1, .int .i64 i1] 38)).alloc (.cells #[.slice a2 n2 cap2, .int .i64 p2, .int .i64 i2] 38)).alloc (.cells #[.slice none 0 0, .int .i64 0, .int .i64 0] 38) = W := ⟨_, rfl⟩
  obtain ⟨⟨hB, hWs⟩, k1, k2, kr⟩ := boxesB w a1 n1 cap1 p1 i1 a2 n2 cap2 p2 i2 hW
  have HB := Lib.hid hB
  have KR := Lib.hid kr
  have HR := Lib.hid (And.intro (h1.under hB) (h2.under hB))
  have HW := Lib.hid hW
  obtain ⟨m0, m1, m2, m3, m4, m5⟩ := k1
  obtain ⟨u0, u1, u2, u3, u4, u5⟩ := k2
  clear h1 h2 hB kr hW hWs hp1 hi1 hp2 hi2 hv
  go_enter Try.func50, Try.ntmps50
  go_upto_region 1 with fail
  try rw [HW.out]
  go_wp2_with fail
  clear m0 m1 m2 m3 m4 m5 u0 u1 u2 u3 u4 u5
  refine (HX.out _ HR.out.1 HR.out.2).mono ?_
  rintro e v2 ⟨rfl, hb2⟩
  have HP := Lib.hid (GivesBad.post (b := w.heap.size + 2) HB.out (by omega) hb2 1)
  obtain ⟨d0, d1, d2, e0, e1, e2⟩ := KR.out.below hb2
  clear hb2
  go_wp2_with fail
  exact bodyPost_ret (v := .tuple #[curV none 0 0 0 0, .int .i64 1]) (by simp [results, Try.results50, go_sem, d0, d1, d2]) rfl HP.out

/-- The six answers of the operations on pairs of two curves: three, each given twice. -/
def PrU (z1 : List Int) (p1 i1 : Int) (z2 : List Int) (p2 i2 : Int) (r s t : Rs) : Prop :=
  ∀ (a1 : Option Addr) (n1 cap1 : Nat) (a2 : Option Addr) (n2 cap2 : Nat) (w : World), RowZ w a1 n1 cap1 z1 → RowZ w a2 n2 cap2 z2 →
    Calls Try.prog 45 #[curV a1 n1 cap1 p1 i1, curV a2 n2 cap2 p2 i2] w (GivesCE r.zs r.p r.inc r.c w) ∧
    Calls Try.prog 46 #[curV a1 n1 cap1 p1 i1, curV a2 n2 cap2 p2 i2] w (GivesCE r.zs r.p r.inc r.c w) ∧
    Calls Try.prog 47 #[curV a1 n1 cap1 p1 i1, curV a2 n2 cap2 p2 i2] w (GivesCE s.zs s.p s.inc s.c w) ∧
    Calls Try.prog 48 #[curV a1 n1 cap1 p1 i1, curV a2 n2 cap2 p2 i2] w (GivesCE s.zs s.p s.inc s.c w) ∧
    Calls Try.prog 49 #[curV a1 n1 cap1 p1 i1, curV a2 n2 cap2 p2 i2] w (GivesCE t.zs t.p t.inc t.c w) ∧
    Calls Try.prog 50 #[curV a1 n1 cap1 p1 i1, curV a2 n2 cap2 p2 i2] w (GivesCE t.zs t.p t.inc t.c w)
theorem pair_bad5 (fc : FuncId) (a1 : Option Addr) (n1 cap1 : Nat) (z1 : List Int) (p1 i1 : Int) (hp1 : In64 p1) (hi1 : In64 i1) (a2 : Option Addr) (n2 cap2 : Nat) (z2 : List Int) (p2 i2 : Int) (hp2 : In64 p2) (hi2 : In64 i2) (hv : okC z1 p1 i1 = false ∨ okC z2 p2 i2 = false) (w : World) (h1 : RowZ w a1 n1 cap1 z1) (h2 : RowZ w a2 n2 cap2 z2) :
    Calls Try.prog 125 #[curV a1 n1 cap1 p1 i1, curV a2 n2 cap2 p2 i2, .func (.func fc) #[] #[]] w (GivesBad 1 w) := by
  cases v1 : okC z1 p1 i1 with
  | false => exact pair_bad1 fc a1 n1 cap1 z1 p1 i1 hp1 hi1 a2 n2 cap2 z2 p2 i2 hp2 hi2 v1 w h1 h2
  | true => exact pair_bad2 fc a1 n1 cap1 z1 p1 i1 hp1 hi1 a2 n2 cap2 z2 p2 i2 hp2 hi2 v1 (hv.resolve_left (by rw [v1]; decide)) w h1 h2
theorem pair_u {z1 : List Int} {p1 i1 : Int} (hp1 : In64 p1) (hi1 : In64 i1) {z2 : List Int} {p2 i2 : Int} (hp2 : In64 p2) (hi2 : In64 i2) :
    ∃ r s t : Rs, PrU z1 p1 i1 z2 p2 i2 r s t := by
  by_cases hv : okC z1 p1 i1 = false ∨ okC z2 p2 i2 = false
  · exact ⟨⟨[], 0, 0, 1⟩, ⟨[], 0, 0, 1⟩, ⟨[], 0, 0, 1⟩, fun a1 n1 cap1 a2 n2 cap2 w h1 h2 =>
      ⟨(sum_bad 1 a1 n1 cap1 p1 i1 a2 n2 cap2 p2 i2 (fun W k1 k2 => pair_bad5 _ a1 n1 cap1 z1 p1 i1 hp1 hi1 a2 n2 cap2 z2 p2 i2 hp2 hi2 hv W k1 k2) w h1 h2).mono (fun _ _ h => h.ce),
       (rsum_bad a1 n1 cap1 z1 p1 i1 hp1 hi1 a2 n2 cap2 z2 p2 i2 hp2 hi2 hv w h1 h2).mono (fun _ _ h => h.ce),
       (min_bad 1 a1 n1 cap1 p1 i1 a2 n2 cap2 p2 i2 (fun W k1 k2 => pair_bad5 _ a1 n1 cap1 z1 p1 i1 hp1 hi1 a2 n2 cap2 z2 p2 i2 hp2 hi2 hv W k1 k2) w h1 h2).mono (fun _ _ h => h.ce),
       (rmin_bad a1 n1 cap1 z1 p1 i1 hp1 hi1 a2 n2 cap2 z2 p2 i2 hp2 hi2 hv w h1 h2).mono (fun _ _ h => h.ce),
       (max_bad 1 a1 n1 cap1 p1 i1 a2 n2 cap2 p2 i2 (fun W k1 k2 => pair_bad5 _ a1 n1 cap1 z1 p1 i1 hp1 hi1 a2 n2 cap2 z2 p2 i2 hp2 hi2 hv W k1 k2) w h1 h2).mono (fun _ _ h => h.ce),
       (rmax_bad a1 n1 cap1 z1 p1 i1 hp1 hi1 a2 n2 cap2 z2 p2 i2 hp2 hi2 hv w h1 h2).mono (fun _ _ h => h.ce)⟩⟩
  have v1 : okC z1 p1 i1 = true := by
    cases h : okC z1 p1 i1 with
    | true => rfl
    | false => exact absurd (.inl h) hv
  have v2 : okC z2 p2 i2 = true := by
    cases h : okC z2 p2 i2 with
    | true => rfl
    | false => exact absurd (.inr h) hv
  obtain ⟨q1, rfl, g1⟩ := okC_pos v1
  obtain ⟨q2, rfl, g2⟩ := okC_pos v2
  obtain ⟨y1, r1, j1, m1⟩ := g1.norm_ex
  obtain ⟨y2, r2, j2, m2⟩ := g2.norm_ex
  obtain ⟨L, hL⟩ : ∃ L, r1 / Nat.gcd r1 r2 * r2 = L := ⟨_, rfl⟩
  have hl : LcmN z1 q1 i1 z2 q2 i2 L := ⟨_, _, _, _, _, _, m1, m2, hL⟩
  by_cases h120 : 120 < L
  · exact ⟨⟨[], 0, 0, 3⟩, ⟨[], 0, 0, 3⟩, ⟨[], 0, 0, 3⟩, fun a1 n1 cap1 a2 n2 cap2 w h1 h2 =>
      ⟨(sum_bad 3 a1 n1 cap1 q1 i1 a2 n2 cap2 q2 i2 (fun W k1 k2 => pair_lim _ a1 n1 cap1 z1 q1 i1 g1 a2 n2 cap2 z2 q2 i2 g2 m1 m2 L hL h120 W k1 k2) w h1 h2).mono (fun _ _ h => h.ce),
       (rsum_lim a1 n1 cap1 z1 q1 i1 g1 a2 n2 cap2 z2 q2 i2 g2 L hl h120 w h1 h2).mono (fun _ _ h => h.ce),
       (min_bad 3 a1 n1 cap1 q1 i1 a2 n2 cap2 q2 i2 (fun W k1 k2 => pair_lim _ a1 n1 cap1 z1 q1 i1 g1 a2 n2 cap2 z2 q2 i2 g2 m1 m2 L hL h120 W k1 k2) w h1 h2).mono (fun _ _ h => h.ce),
       (rmin_lim a1 n1 cap1 z1 q1 i1 g1 a2 n2 cap2 z2 q2 i2 g2 L hl h120 w h1 h2).mono (fun _ _ h => h.ce),
       (max_bad 3 a1 n1 cap1 q1 i1 a2 n2 cap2 q2 i2 (fun W k1 k2 => pair_lim _ a1 n1 cap1 z1 q1 i1 g1 a2 n2 cap2 z2 q2 i2 g2 m1 m2 L hL h120 W k1 k2) w h1 h2).mono (fun _ _ h => h.ce),
       (rmax_lim a1 n1 cap1 z1 q1 i1 g1 a2 n2 cap2 z2 q2 i2 g2 L hl h120 w h1 h2).mono (fun _ _ h => h.ce)⟩⟩
  · have hL2 : L ≤ 120 := by omega
    obtain ⟨zr, pr, ir, cr, _, kr⟩ := e_ex (eSum z1 q1 i1 z2 q2 i2)
    obtain ⟨zs, ps, is, cs, _, ks⟩ := e_ex (eMin z1 q1 i1 z2 q2 i2)
    obtain ⟨zt, pt, it, ct, _, kt⟩ := e_ex (eMax z1 q1 i1 z2 q2 i2)
    exact ⟨⟨zr, pr, ir, cr⟩, ⟨zs, ps, is, cs⟩, ⟨zt, pt, it, ct⟩, fun a1 n1 cap1 a2 n2 cap2 w h1 h2 =>
      ⟨(sum_ok a1 n1 cap1 z1 q1 i1 g1 a2 n2 cap2 z2 q2 i2 g2 L hl hL2 w h1 h2).mono (fun e w' h => kr _ e w' h),
       (rsum_ok a1 n1 cap1 z1 q1 i1 g1 a2 n2 cap2 z2 q2 i2 g2 L hl hL2 w h1 h2).mono (fun e w' h => kr _ e w' h),
       (min_ok a1 n1 cap1 z1 q1 i1 g1 a2 n2 cap2 z2 q2 i2 g2 L hl hL2 w h1 h2).mono (fun e w' h => ks _ e w' h),
       (rmin_ok a1 n1 cap1 z1 q1 i1 g1 a2 n2 cap2 z2 q2 i2 g2 L hl hL2 w h1 h2).mono (fun e w' h => ks _ e w' h),
       (max_ok a1 n1 cap1 z1 q1 i1 g1 a2 n2 cap2 z2 q2 i2 g2 L hl hL2 w h1 h2).mono (fun e w' h => kt _ e w' h),
       (rmax_ok a1 n1 cap1 z1 q1 i1 g1 a2 n2 cap2 z2 q2 i2 g2 L hl hL2 w h1 h2).mono (fun e w' h => kt _ e w' h)⟩⟩

end Go.Proofs.Ytjipmkgnndldpaa
