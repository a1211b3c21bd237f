/- Hop of package packet. By the verifier's side. -/
import Derived.Test.YthljhddnfflpjaaCPwG
import Derived.Test.YthljhddnfflpjaaCPwOR56MHpM
import Derived.Test.YthljhddnfflpjaaCPk1
namespace Go.Proofs.Ythljhddnfflpjaa
open Go.RowKit
set_option linter.unusedSimpArgs false
set_option linter.unusedVariables false

set_option maxRecDepth 100000 in
set_option maxHeartbeats 3200000 in
theorem hop15_ok (a : Option Addr) (n cap : Nat) (zs : List Int) (p : Nat) (inc : Int) (g : Good zs p inc) (m : Int) (hm : 1 ≤ m ∧ m ≤ 1500) (w : World) (h : RowZ w a n cap zs) :
    Calls Try.prog 78 #[curV a n cap p inc, .int .i64 m] w (GivesE (eHop (m - 1) zs p inc) w) := by
  obtain ⟨W, hW⟩ : ∃ W, (w.alloc (.cells #[.slice a n cap, .int .i64 p, .int .i64 inc] 24)).alloc (.cells #[.slice none 0 0, .int .i64 0, .int .i64 0] 24) = W := ⟨_, rfl⟩
  have hB : Below w.heap.size w W := by rw [← hW]; exact ((Below.refl _ _).alloc (Nat.le_refl _) _).alloc (by simp) _
  have hWs : W.heap.size = w.heap.size + 2 := by rw [← hW]; simp
  have HB := Lib.hid hB
  have HWS := Lib.hid hWs
  have KR := Lib.hid (show Cur3 W (w.heap.size + 1) (.slice none 0 0) (.int .i64 0) (.int .i64 0) by rw [← hW]; exact Cur3.new2 w _ _ _ _ _)
  have K0 := Lib.hid (show Cur3 W w.heap.size (.slice a n cap) (.int .i64 p) (.int .i64 inc) by rw [← hW]; exact (Cur3.new w _ _ _ _).alloc _)
  have HR := Lib.hid (h.under hB)
  have HG := Lib.hid g
  have HW := Lib.hid hW
  have hp64 : In64 (p : Int) := ⟨by have := g.p2; omega, by have := g.p2; omega⟩
  have hi64 : In64 inc := ⟨by have := g.i0; omega, by have := g.i1; omega⟩
  have HV := Lib.hid (valid_any a n cap zs p inc hp64 hi64 true ((okC_iff zs p inc).2 g))
  have ho : (decide (m < 1) || decide (1500 < m)) = false := by simp; omega
  have HO := Lib.hid ho
  obtain ⟨hm1, hm2⟩ := hm
  have hw1 : IntKind.i64.wrap (m - 1) = m - 1 := IntWalk.i64_in _ ⟨by omega, by omega⟩
  obtain ⟨c0, c1, c2, f0, f1, f2⟩ := K0.out
  clear hB hWs h g hW hp64 hi64 ho
  go_enter Try.func78, Try.ntmps78
  go_upto_region 1 with fail
  try rw [HW.out]
  go_wp2_with fail
  clear c0 c1 c2 f0 f1 f2
  refine (HV.out _ HR.out).mono ?_
  rintro e v1 ⟨rfl, hb1⟩
  have B1 := Lib.hid hb1
  clear hb1
  go_wp2_with fail
  refine (outside15 m 1 1500 false HO.out _).mono ?_
  rintro e v1' ⟨rfl, rfl⟩
  obtain ⟨c0, c1, c2, f0, f1, f2⟩ := K0.out.below B1.out
  go_wp2_with fail
  clear c0 c1 c2 f0 f1 f2
  refine (lower_ok a n cap zs p inc HG.out (m - 1) (by omega) (by omega) _ (HR.out.under B1.out)).mono ?_
  rintro e v2 ⟨hb2, ⟨a2, n2, cap2, z2, p2, i2, rfl, hr2, hf2, hx2⟩ | ⟨rfl, hno⟩⟩
  · obtain ⟨V, hV⟩ : ∃ V, v2.alloc (.cells #[.slice a2 n2 cap2, .int .i64 p2, .int .i64 i2] 24) = V := ⟨_, rfl⟩
    have hbv : Below v2.heap.size v2 V := by rw [← hV]; exact (Below.refl _ _).alloc (Nat.le_refl _) _
    have B2 := Lib.hid (show Below W.heap.size W V from B1.out.trans ((hb2.trans (hbv.mono hb2.size)).mono B1.out.size))
    have K2 := Lib.hid (show Cur3 V v2.heap.size (.slice a2 n2 cap2) (.int .i64 p2) (.int .i64 i2) by rw [← hV]; exact Cur3.new v2 _ _ _ _)
    have R2 := Lib.hid (hr2.under hbv)
    have F2 := Lib.hid hf2
    have KRV := Lib.hid (KR.out.below B2.out)
    have HBV := Lib.hid (HB.out.trans (B2.out.mono HB.out.size))
    have HL := Lib.hid (hop_later hf2.2.1)
    have HV2 := Lib.hid hV
    clear hb2 hbv hr2 hf2 hx2 hV
    go_upto_region 6 with fail
    try rw [HV2.out]
    obtain ⟨c0, c1, c2, f0, f1, f2⟩ := K2.out
    go_wp2_with fail
    clear c0 c1 c2 f0 f1 f2
    refine (later_ok a2 n2 cap2 z2 p2 i2 F2.out.1 1 (by omega) _ R2.out).mono ?_
    rintro e v9 ⟨hb, ⟨a9, n9, cap9, z9, p9, i9, rfl, hr, hf, hx⟩ | ⟨rfl, hno⟩⟩
    · have HP := Lib.hid (GivesE.post (E := eHop (m - 1) zs p inc) (b := w.heap.size + 1) HBV.out (by omega) KRV.out.lt hb hr hx (by rw [← HL.out]; exact hf))
      obtain ⟨r0, r1, r2, r3, r4, r5⟩ := KRV.out.below hb
      clear hb hr hf hx
      go_wp2_with fail
      exact bodyPost_ret (v := .tuple #[curV a9 n9 cap9 p9 i9, .int .i64 0]) (by simp [results, Try.results78, go_sem, r0, r1, r2]) rfl HP.out
    · have HP := Lib.hid (GivesE.postNo (E := eHop (m - 1) zs p inc) (b := w.heap.size + 1) HBV.out (by omega) hb (by rw [← HL.out]; exact hno))
      obtain ⟨r0, r1, r2, r3, r4, r5⟩ := KRV.out.below hb
      clear hb hno
      go_wp2_with fail
      exact bodyPost_ret (v := .tuple #[curV none 0 0 0 0, .int .i64 3]) (by simp [results, Try.results78, go_sem, r0, r1, r2]) rfl HP.out
  · obtain ⟨V, hV⟩ : ∃ V, v2.alloc (.cells #[.slice none 0 0, .int .i64 0, .int .i64 0] 24) = V := ⟨_, rfl⟩
    have hbv : Below v2.heap.size v2 V := by rw [← hV]; exact (Below.refl _ _).alloc (Nat.le_refl _) _
    have B2 := Lib.hid (show Below W.heap.size W V from B1.out.trans ((hb2.trans (hbv.mono hb2.size)).mono B1.out.size))
    have KRV := Lib.hid (KR.out.below B2.out)
    have HBV := Lib.hid (HB.out.trans (B2.out.mono HB.out.size))
    have HN := Lib.hid (show ¬ ECan (eHop (m - 1) zs p inc) from fun hc => hno (hop_can hc))
    have HV2 := Lib.hid hV
    clear hb2 hbv hno hV
    go_upto_region 6 with fail
    try rw [HV2.out]
    have HP := Lib.hid (GivesE.postNo (E := eHop (m - 1) zs p inc) (b := w.heap.size + 1) HBV.out (by omega) (Below.refl _ _) HN.out)
    obtain ⟨r0, r1, r2, r3, r4, r5⟩ := KRV.out
    go_wp2_with fail
    exact bodyPost_ret (v := .tuple #[curV none 0 0 0 0, .int .i64 3]) (by simp [results, Try.results78, go_sem, r0, r1, r2]) rfl HP.out
end Go.Proofs.Ythljhddnfflpjaa
