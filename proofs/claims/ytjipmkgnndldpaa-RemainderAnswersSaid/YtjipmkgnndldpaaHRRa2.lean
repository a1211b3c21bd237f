/- The document's Above. By the verifier's side. -/
import Derived.Test.YtjipmkgnndldpaaHRRe2
import Derived.Test.YtjipmkgnndldpaaHRRa1
namespace Go.Proofs.Ytjipmkgnndldpaa
open Go.RowKit
set_option linter.unusedSimpArgs false
set_option linter.unusedVariables false

/-- The least value from tick k on, of those below N. -/
def lowV (F : Nat → Int) (N k : Nat) : Int := if k = N then infV else minK F (N - 1 - k) k
theorem lowV_step {F : Nat → Int} {N j : Nat} (hj : j + 1 ≤ N) (h : F j ≤ infV) : lowV F N j = min (lowV F N (j + 1)) (F j) := by
  unfold lowV
  rw [if_neg (show ¬ j = N by omega)]
  by_cases e : j + 1 = N
  · rw [if_pos e, show N - 1 - j = 0 by omega]
    show F j = min infV (F j)
    omega
  · rw [if_neg e, show N - 1 - j = (N - 1 - (j + 1)) + 1 by omega]
    show min (F j) (minK F (N - 1 - (j + 1)) (j + 1)) = _
    omega
theorem RL.inc6 {w : World} {lb m D0 L : Nat} {G : Int} {F : Nat → Int} {u : World} (h : RL w lb m D0 L G F u) (G' : Int) : RL w lb m D0 L G' F (u.setCell ⟨D0, 2, none⟩ (.int .i64 G')) := by
  have hl := h.lb1
  exact ⟨h.row.other (by omega) _ _, h.kd.set2 _, h.res.other (by omega) _ _, h.lb1, h.below.setCell (p := ⟨D0, 2, none⟩) (by show w.heap.size ≤ D0; omega) _⟩
theorem RowF.rowZ6 {u : World} {lb m : Nat} {F : Nat → Int} (h : RowF u lb m F) (hm : m ≤ 520) (hF : ∀ t, t ≤ 1000 → In64 (F t)) : RowZ u (some ⟨lb, 0, none⟩) m m (firsts F m) :=
  ⟨firsts_length _ _, Nat.le_refl _, by omega, by omega, fun i hi => ⟨⟨lb, 0, none⟩, rfl, by rw [WideShapes.add_plain, Nat.zero_add, firsts_getD _ _ _ hi]; exact (h.cell i hi).1⟩, fun i hi => by rw [firsts_getD _ _ _ hi]; exact hF i (by omega)⟩

set_option maxRecDepth 100000 in
set_option maxHeartbeats 3200000 in
theorem rabove_lim (a1 : Option Addr) (n1 cap1 : Nat) (z1 : List Int) (p1 : Nat) (i1 : Int) (g1 : Good z1 p1 i1) (a2 : Option Addr) (n2 cap2 : Nat) (z2 : List Int) (p2 : Nat) (i2 : Int) (g2 : Good z2 p2 i2) (L : Nat) (hL : LcmN z1 p1 i1 z2 p2 i2 L) (hL2 : 120 < L) (w : World) (h1 : RowZ w a1 n1 cap1 z1) (h2 : RowZ w a2 n2 cap2 z2) :
    Calls Try.prog 55 #[curV a1 n1 cap1 p1 i1, curV a2 n2 cap2 p2 i2] w (GivesBad 3 w) := by
  have HG := Lib.hid (And.intro g1 g2)
  have HL := Lib.hid (And.intro hL hL2)
  obtain ⟨W, hW⟩ : ∃ W, ((w.alloc (.cells #[.slice a1 n1 cap1, .int .i64 p1, .int .i64 i1] 38)).alloc (.cells #[.slice a2 n2 cap2, .int .i64 p2, .int .i64 i2] 38)).alloc (.cells #[.slice none 0 0, .int .i64 0, .int .i64 0] 38) = W := ⟨_, rfl⟩
  obtain ⟨⟨hB, hWs⟩, k1, k2, kr⟩ := boxesB w a1 n1 cap1 p1 i1 a2 n2 cap2 p2 i2 hW
  have HB := Lib.hid hB
  have KR := Lib.hid kr
  have HR := Lib.hid (And.intro (h1.under hB) (h2.under hB))
  have HWS := Lib.hid hWs
  have hW1 := hW
  obtain ⟨m0, m1, m2, m3, m4, m5⟩ := k1
  obtain ⟨u0, u1, u2, u3, u4, u5⟩ := k2
  clear h1 h2 hB kr hW hWs g1 g2 hL hL2
  go_enter Try.func55, Try.ntmps55
  go_wp2_with fail
  try rw [hW1]
  clear hW1 m0 m1 m2 m3 m4 m5 u0 u1 u2 u3 u4 u5
  refine (rpair_any a1 n1 cap1 z1 p1 i1 HG.out.1 a2 n2 cap2 z2 p2 i2 HG.out.2 L HL.out.1 0 3 (if_pos HL.out.2).symm (if_pos HL.out.2).symm _ HR.out.1 HR.out.2).mono ?_
  rintro e v1 ⟨b1, m1, c1, y1, q1, j1, b2, m2, c2, y2, q2, j2, rfl, hb, hr1, hr2, hn1, hn2, hx1, hx2⟩
  obtain ⟨W2, hw⟩ : ∃ W2, (v1.alloc (.cells #[.slice b1 m1 c1, .int .i64 q1, .int .i64 j1] 38)).alloc (.cells #[.slice b2 m2 c2, .int .i64 q2, .int .i64 j2] 38) = W2 := ⟨_, rfl⟩
  have hWz : Below W.heap.size W W2 := by rw [← hw]; exact (hb.alloc hb.size _).alloc (by have := hb.size; simp; omega) _
  have HP := Lib.hid (GivesBad.post (b := w.heap.size + 2) HB.out (by omega) hWz 3)
  obtain ⟨r0, r1, r2, r3, r4, r5⟩ := KR.out.below hWz
  clear hWz
  clear hb hr1 hr2 hn1 hn2 hx1 hx2
  go_wp2_with fail
  try rw [hw]
  exact bodyPost_ret (v := .tuple #[curV none 0 0 0 0, .int .i64 3]) (by simp [results, Try.results55, go_sem, r0, r1, r2]) rfl HP.out

set_option maxRecDepth 100000 in
set_option maxHeartbeats 6400000 in
theorem rabove_ok (a1 : Option Addr) (n1 cap1 : Nat) (z1 : List Int) (p1 : Nat) (i1 : Int) (g1 : Good z1 p1 i1) (a2 : Option Addr) (n2 cap2 : Nat) (z2 : List Int) (p2 : Nat) (i2 : Int) (g2 : Good z2 p2 i2) (L : Nat) (hL : LcmN z1 p1 i1 z2 p2 i2 L) (hL2 : L ≤ 120) (w : World) (h1 : RowZ w a1 n1 cap1 z1) (h2 : RowZ w a2 n2 cap2 z2) :
    Calls Try.prog 55 #[curV a1 n1 cap1 p1 i1, curV a2 n2 cap2 p2 i2] w (GivesE (eAbove z1 p1 i1 z2 p2 i2) w) := by
  obtain ⟨ii0, ihi, ihz0, ihz1, ihz2⟩ := info_parts info_int
  have HG := Lib.hid (And.intro g1 g2)
  have HL := Lib.hid (And.intro hL hL2)
  obtain ⟨W, hW⟩ : ∃ W, ((w.alloc (.cells #[.slice a1 n1 cap1, .int .i64 p1, .int .i64 i1] 38)).alloc (.cells #[.slice a2 n2 cap2, .int .i64 p2, .int .i64 i2] 38)).alloc (.cells #[.slice none 0 0, .int .i64 0, .int .i64 0] 38) = W := ⟨_, rfl⟩
  obtain ⟨⟨hB, hWs⟩, k1, k2, kr⟩ := boxesB w a1 n1 cap1 p1 i1 a2 n2 cap2 p2 i2 hW
  have HB := Lib.hid hB
  have KR := Lib.hid kr
  have HR := Lib.hid (And.intro (h1.under hB) (h2.under hB))
  have HWS := Lib.hid hWs
  have hW1 := hW
  obtain ⟨m0, m1, m2, m3, m4, m5⟩ := k1
  obtain ⟨u0, u1, u2, u3, u4, u5⟩ := k2
  clear h1 h2 hB kr hW hWs g1 g2 hL hL2
  go_enter Try.func55, Try.ntmps55
  go_wp2_with fail
  try rw [hW1]
  clear hW1 m0 m1 m2 m3 m4 m5 u0 u1 u2 u3 u4 u5
  have hn120 : ¬ 120 < L := by have := HL.out.2; omega
  refine (rpair_any a1 n1 cap1 z1 p1 i1 HG.out.1 a2 n2 cap2 z2 p2 i2 HG.out.2 L HL.out.1 L 0 (if_neg hn120).symm (if_neg hn120).symm _ HR.out.1 HR.out.2).mono ?_
  rintro e v1 ⟨b1, m1, c1, y1, q1, j1, b2, m2, c2, y2, q2, j2, rfl, hb, hr1, hr2, hn1, hn2, hx1, hx2⟩
  obtain ⟨W2, hw⟩ : ∃ W2, (v1.alloc (.cells #[.slice b1 m1 c1, .int .i64 q1, .int .i64 j1] 38)).alloc (.cells #[.slice b2 m2 c2, .int .i64 q2, .int .i64 j2] 38) = W2 := ⟨_, rfl⟩
  have hz : Below v1.heap.size v1 W2 := by rw [← hw]; exact ((Below.refl _ _).alloc (Nat.le_refl _) _).alloc (by simp) _
  have hWz : Below W.heap.size W W2 := hb.trans (hz.mono hb.size)
  have KR2 := Lib.hid (KR.out.below hWz)
  have HB2 := Lib.hid (HB.out.trans (hWz.mono HB.out.size))
  have XA := Lib.hid (show Bx W2 v1.heap.size b1 m1 c1 q1 j1 y1 by rw [← hw]; exact (Bx.new hr1).under (box_below _ _))
  have XB := Lib.hid (show Bx W2 (v1.heap.size + 1) b2 m2 c2 q2 j2 y2 by
    rw [← hw]
    have := Bx.new (p := q2) (inc := j2) (hr2.under (box_below v1 (.cells #[.slice b1 m1 c1, .int .i64 q1, .int .i64 j1] 38)))
    simpa using this)
  have GY := Lib.hid (And.intro (hn1.good HG.out.1) (hn2.good HG.out.2))
  have HN := Lib.hid (And.intro hn1 hn2)
  have hLL : q1 / Nat.gcd q1 q2 * q2 = L := by
    obtain ⟨u1, r1, k1, u2, r2, k2, n1, n2, e⟩ := HL.out.1
    obtain ⟨_, rfl, _⟩ := n1.canon HG.out.1 HG.out.1 hn1 (fun _ => rfl)
    obtain ⟨_, rfl, _⟩ := n2.canon HG.out.2 HG.out.2 hn2 (fun _ => rfl)
    exact e
  have HLC := Lib.hid (lcm_of GY.out.1.p1 GY.out.2.p1 hLL)
  have hs1 : w.heap.size + 3 ≤ v1.heap.size := by have := hb.size; have := HWS.out; omega
  have HWA := Lib.hid (show W2.heap.size = v1.heap.size + 2 by rw [← hw]; simp)
  have HEQ := Lib.hid (And.intro (hn1.eform HG.out.1).2.1 (hn2.eform HG.out.2).2.1)
  have hw1 := hw
  obtain ⟨A, hA⟩ : ∃ A, v1.heap.size = A := ⟨_, rfl⟩
  rw [hA] at XA XB hs1 HWA
  obtain ⟨g0, g1, g2, g3, g4, g5⟩ := XA.out.box
  obtain ⟨d0, d1, d2, d3, d4, d5⟩ := XB.out.box
  have hL1 := HLC.out.one
  have hL120 := HL.out.2
  have q11 := GY.out.1.p1
  have q12 := GY.out.1.p2
  have q21 := GY.out.2.p1
  have q22 := GY.out.2.p2
  have bj1 := GY.out.1.i0
  have bj1' := GY.out.1.i1
  have bj2 := GY.out.2.i0
  have bj2' := GY.out.2.i1
  clear hb hr1 hr2 hn1 hn2 hx1 hx2 hw hz hWz hLL hn120
  obtain ⟨k1, hk1⟩ : ∃ k, L / q1 = k := ⟨_, rfl⟩
  have hk1b : k1 ≤ 120 := by rw [← hk1]; exact Nat.le_trans (Nat.div_le_self _ _) hL120
  have hkq1 : (L : Int).tdiv (q1 : Int) = (k1 : Int) := by rw [Int.tdiv_eq_ediv_of_nonneg (by omega), ← hk1]; exact Int.natCast_ediv _ _
  have hkz1 : ¬ (q1 : Int) = 0 := by omega
  have hkn1 : ¬ q1 = 0 := by omega
  have hkd1 : (L : Int) / (q1 : Int) = (k1 : Int) := by rw [← hk1]; exact (Int.natCast_ediv _ _).symm
  obtain ⟨x1, hx1⟩ : ∃ x, j1 * (k1 : Int) = x := ⟨_, rfl⟩
  have hxb1 : 0 ≤ x1 ∧ x1 ≤ 128849018880 := by
    rw [← hx1]
    have h := Int.mul_le_mul bj1' (show (k1 : Int) ≤ 120 by omega) (by omega) (by omega)
    exact ⟨Int.mul_nonneg bj1 (by omega), by omega⟩
  obtain ⟨hxl1, hxu1⟩ := hxb1
  have hxw1 : IntKind.i64.wrap (j1 * (k1 : Int)) = x1 := by rw [hx1]; exact IntWalk.i64_in _ ⟨by omega, by omega⟩
  have hxx1 : IntKind.i64.wrap x1 = x1 := IntWalk.i64_in _ ⟨by omega, by omega⟩
  have hkw1 : IntKind.i64.wrap (k1 : Int) = (k1 : Int) := IntWalk.i64_in _ ⟨by omega, by omega⟩
  have HK1 := Lib.hid (And.intro hk1 hx1)
  obtain ⟨k2, hk2⟩ : ∃ k, L / q2 = k := ⟨_, rfl⟩
  have hk2b : k2 ≤ 120 := by rw [← hk2]; exact Nat.le_trans (Nat.div_le_self _ _) hL120
  have hkq2 : (L : Int).tdiv (q2 : Int) = (k2 : Int) := by rw [Int.tdiv_eq_ediv_of_nonneg (by omega), ← hk2]; exact Int.natCast_ediv _ _
  have hkz2 : ¬ (q2 : Int) = 0 := by omega
  have hkn2 : ¬ q2 = 0 := by omega
  have hkd2 : (L : Int) / (q2 : Int) = (k2 : Int) := by rw [← hk2]; exact (Int.natCast_ediv _ _).symm
  obtain ⟨x2, hx2⟩ : ∃ x, j2 * (k2 : Int) = x := ⟨_, rfl⟩
  have hxb2 : 0 ≤ x2 ∧ x2 ≤ 128849018880 := by
    rw [← hx2]
    have h := Int.mul_le_mul bj2' (show (k2 : Int) ≤ 120 by omega) (by omega) (by omega)
    exact ⟨Int.mul_nonneg bj2 (by omega), by omega⟩
  obtain ⟨hxl2, hxu2⟩ := hxb2
  have hxw2 : IntKind.i64.wrap (j2 * (k2 : Int)) = x2 := by rw [hx2]; exact IntWalk.i64_in _ ⟨by omega, by omega⟩
  have hxx2 : IntKind.i64.wrap x2 = x2 := IntWalk.i64_in _ ⟨by omega, by omega⟩
  have hkw2 : IntKind.i64.wrap (k2 : Int) = (k2 : Int) := IntWalk.i64_in _ ⟨by omega, by omega⟩
  have HK2 := Lib.hid (And.intro hk2 hx2)
  have hxs : IntKind.i64.wrap (x1 + x2) = x1 + x2 := IntWalk.i64_in _ ⟨by omega, by omega⟩
  have XQ1 := And.intro (And.intro hkq1 (And.intro hkz1 (And.intro hkn1 hkd1))) (And.intro hxw1 (And.intro hxx1 hkw1))
  have XQ2 := And.intro (And.intro hkq2 (And.intro hkz2 (And.intro hkn2 hkd2))) (And.intro hxw2 (And.intro hxx2 hkw2))
  have HXB := Lib.hid (And.intro (And.intro hxl1 hxu1) (And.intro hxl2 hxu2))
  obtain ⟨f, hf⟩ : ∃ f, encF (eAbove y1 q1 j1 y2 q2 j2) = f := ⟨_, rfl⟩
  obtain ⟨F, hF⟩ : ∃ F, encF (eDif y1 q1 j1 y2 q2 j2) = F := ⟨_, rfl⟩
  have HF := Lib.hid hf
  have HFD := Lib.hid hF
  have HEE := Lib.hid (show eAbove y1 q1 j1 y2 q2 j2 = eAbove z1 p1 i1 z2 p2 i2 from by
    have hd : eDif y1 q1 j1 y2 q2 j2 = eDif z1 p1 i1 z2 p2 i2 := funext fun t => by unfold eDif; rw [HEQ.out.1 t, HEQ.out.2 t]
    unfold eAbove
    rw [hd])
  obtain ⟨M, hM⟩ : ∃ M : Nat, 400 + (L : Int) = (M : Int) := ⟨400 + L, by omega⟩
  obtain ⟨N, hN⟩ : ∃ N : Nat, 400 + 2 * (L : Int) = (N : Int) := ⟨400 + 2 * L, by omega⟩
  have hMn : M = 400 + L := by omega
  have hMw : IntKind.i64.wrap (M : Int) = (M : Int) := IntWalk.i64_in _ ⟨by omega, by omega⟩
  have h2L : IntKind.i64.wrap (2 * (L : Int)) = 2 * (L : Int) := IntWalk.i64_in _ ⟨by omega, by omega⟩
  have hNw : IntKind.i64.wrap (N : Int) = (N : Int) := IntWalk.i64_in _ ⟨by omega, by omega⟩
  have HMn := Lib.hid hMn
  have HNn := Lib.hid (show N = 400 + 2 * L by omega)
  have HMB := Lib.hid (show 401 ≤ M ∧ M ≤ 520 by omega)
  have HNB := Lib.hid (show M ≤ N ∧ N ≤ 640 by omega)
  have HIN := Lib.hid (show ∀ t, t ≤ 1000 → In64 (f t) from fun t ht => by
    have h := (above_mid GY.out.1 GY.out.2 ht).bd
    rw [hf] at h
    exact ⟨by omega, by omega⟩)
  have HFI := Lib.hid (show ∀ t, t ≤ 1000 → F t ≤ infV ∧ 0 ≤ F t from fun t ht => by
    rw [← hF]
    cases e : eDif y1 q1 j1 y2 q2 j2 t with
    | none => rw [encF_none e]; unfold infV; omega
    | some x => rw [encF_some e]; have := eDif_bd GY.out.1 GY.out.2 e; unfold infV; omega)
  clear hf hF hMn g0 g1 g2 g3 g4 g5 d0 d1 d2 d3 d4 d5 hxw1 hxw2 hxx1 hxx2 hkw1 hkw2 hkq1 hkq2 hkz1 hkz2 hkn1 hkn2 hkd1 hkd2 hxs
  have HKQ := Lib.hid (And.intro XQ1 XQ2)
  clear XQ1 XQ2
  obtain ⟨dd, hdd⟩ : ∃ d, x1 - x2 = d := ⟨_, rfl⟩
  have HDD := Lib.hid hdd
  obtain ⟨fb1, hfb1⟩ : ∃ b, finB y1 q1 j1 = b := ⟨_, rfl⟩
  obtain ⟨fb2, hfb2⟩ : ∃ b, finB y2 q2 j2 = b := ⟨_, rfl⟩
  have HF1 := Lib.hid hfb1
  have HF2 := Lib.hid hfb2
  have HI1 := Lib.hid (show fb1 = true → ¬ InfC y1 from fun e i => by rw [finB_inf i] at hfb1; rw [← hfb1] at e; cases e)
  have HI2 := Lib.hid (show fb2 = true → ¬ InfC y2 from fun e i => by rw [finB_inf i] at hfb2; rw [← hfb2] at e; cases e)
  have HJ1 := Lib.hid (show ¬ InfC y1 → fb1 = true from fun i => hfb1.symm.trans (finB_fin ((okC_iff y1 q1 j1).2 GY.out.1) i))
  have HJ2 := Lib.hid (show ¬ InfC y2 → fb2 = true from fun i => hfb2.symm.trans (finB_fin ((okC_iff y2 q2 j2).2 GY.out.2) i))
  have HSL := Lib.hid (show ((L / q1 : Nat) : Int) * j1 - ((L / q2 : Nat) : Int) * j2 = dd by
    rw [HK1.out.1, HK2.out.1, Int.mul_comm, HK1.out.2, Int.mul_comm, HK2.out.2, hdd])
  clear hfb1 hfb2
  go_upto_region 4 with fail
  try rw [hw1]
  clear hw1
  have hWA : W2.heap.size = A + 2 := HWA.out
  have BX := Lib.hid (And.intro XA.out XB.out)
  go_upto_region 5 with fail
  go_cut [11] (fun s11 wx => s11 = .bool (fb1 && fb2) ∧ Hid (Below W2.heap.size W2 wx))
  case first =>
    obtain ⟨d0, d1, d2, d3, d4, d5⟩ := BX.out.1.box
    go_wp2_with fail
    clear d0 d1 d2 d3 d4 d5
    refine (rfinite_any b1 m1 c1 y1 q1 j1 ⟨by omega, by omega⟩ ⟨by omega, by omega⟩ fb1 HF1.out _ BX.out.1.row).mono ?_
    rintro e u3 ⟨rfl, hb⟩
    have HB3 := Lib.hid hb
    clear hb
    cases fb1 with
    | false =>
      go_wp2_with fail
      go_meet
      exact ⟨rfl, HB3⟩
    | true =>
      obtain ⟨d0, d1, d2, d3, d4, d5⟩ := BX.out.2.box.below HB3.out
      go_wp2_with fail
      clear d0 d1 d2 d3 d4 d5
      refine (rfinite_any b2 m2 c2 y2 q2 j2 ⟨by omega, by omega⟩ ⟨by omega, by omega⟩ fb2 HF2.out _ (BX.out.2.row.under HB3.out)).mono ?_
      rintro e u4 ⟨rfl, hb⟩
      have HB4 := Lib.hid (HB3.out.trans (hb.mono HB3.out.size))
      clear hb
      go_wp2_with fail
      go_meet
      exact ⟨by simp, HB4⟩
  case rest =>
  obtain ⟨rfl, HB5⟩ := hcut
  obtain ⟨w5, rfl⟩ : ∃ u : World, u = wc := ⟨_, rfl⟩
  obtain ⟨d0, d1, d2, d3, d4, d5⟩ := BX.out.1.box.below HB5.out
  obtain ⟨e0, e1, e2, e3, e4, e5⟩ := BX.out.2.box.below HB5.out
  go_upto_region 6 with fail
  go_cut [12] (fun s12 wx => s12 = .int .i64 dd ∧ Hid (Below W2.heap.size W2 wx))
  case first =>
    go_wp2_with fail
    clear d0 d1 d2 d3 d4 d5 e0 e1 e2 e3 e4 e5
    refine (rslopes b1 m1 c1 q1 j1 b2 m2 c2 q2 j2 L k1 k2 x1 x2 HKQ.out.1.1.1 HKQ.out.1.1.2.1 HKQ.out.1.1.2.2.1 HKQ.out.1.1.2.2.2 HKQ.out.1.2.1 HKQ.out.1.2.2.1 HKQ.out.1.2.2.2 HKQ.out.2.1.1 HKQ.out.2.1.2.1 HKQ.out.2.1.2.2.1 HKQ.out.2.1.2.2.2 HKQ.out.2.2.1 HKQ.out.2.2.2.1 HKQ.out.2.2.2.2 HXB.out.1 HXB.out.2 _).mono ?_
    rintro e u5 ⟨rfl, hb⟩
    have HB6 := Lib.hid (HB5.out.trans (hb.mono HB5.out.size))
    clear hb
    rw [hdd]
    go_wp2_with fail
    go_meet
    exact ⟨rfl, HB6⟩
  case rest =>
  clear HB5 d0 d1 d2 d3 d4 d5 e0 e1 e2 e3 e4 e5 hdd hxl1 hxu1 hxl2 hxu2
  obtain ⟨rfl, HB6⟩ := hcut
  obtain ⟨w6, rfl⟩ : ∃ u : World, u = wc := ⟨_, rfl⟩
  have HBW := Lib.hid (HB2.out.trans (HB6.out.mono HB2.out.size))
  have KRW := Lib.hid (KR2.out.below HB6.out)
  by_cases hneg : (fb1 && fb2) = true ∧ dd < 0
  · obtain ⟨hff, hd0⟩ := hneg
    have e12 : fb1 = true ∧ fb2 = true := by simpa using hff
    obtain ⟨rfl, rfl⟩ := e12
    clear hff
    have HZ := Lib.hid (show (fun _ => some 0) = eAbove z1 p1 i1 z2 p2 i2 by
      rw [← HEE.out]
      refine (above_settled GY.out.1 GY.out.2 ?_).symm
      by_cases hex : ∃ T : Nat, ∀ u, T ≤ u → dC y1 q1 j1 y2 q2 j2 u ≤ 0
      · exact hex
      · exfalso
        have hst := (still_of GY.out.1 GY.out.2 HLC.out.mult (fun T => by
          by_cases hu : ∃ u, T ≤ u ∧ 0 < dC y1 q1 j1 y2 q2 j2 u
          · exact hu
          · exact absurd ⟨T, fun u hTu => by
              by_cases h : dC y1 q1 j1 y2 q2 j2 u ≤ 0
              · exact h
              · exact absurd ⟨u, hTu, by omega⟩ hu⟩ hex)).2 (HI1.out rfl) (HI2.out rfl)
        rw [HSL.out] at hst
        omega)
    go_wp2_with fail
    refine (rflat7 0 (by omega) (by omega) _).mono ?_
    rintro e v9 ⟨a9, n9, cap9, z9, p9, i9, rfl, hb, hr, hf, hx⟩
    have HP := Lib.hid (GivesE.post (E := eAbove z1 p1 i1 z2 p2 i2) (b := w.heap.size + 2) HBW.out (by omega) KRW.out.lt hb hr hx (show EForm z9 p9 i9 (eAbove z1 p1 i1 z2 p2 i2) by rw [← HZ.out]; have e0 : eC [0, 0] 1 0 = fun _ => some 0 := funext flat_eC; rw [← e0]; exact hf))
    obtain ⟨r0, r1, r2, r3, r4, r5⟩ := KRW.out.below hb
    clear hb hr hf hx
    go_wp2_with fail
    exact bodyPost_ret (v := .tuple #[curV a9 n9 cap9 p9 i9, .int .i64 0]) (by simp [results, Try.results55, go_sem, r0, r1, r2]) rfl HP.out
  have HNG := Lib.hid hneg
  have HST := Lib.hid (show Still y1 q1 j1 y2 q2 j2 L from fun n1 n2 => by
    rw [HSL.out]
    have e1 := HJ1.out n1
    have e2 := HJ2.out n2
    subst e1; subst e2
    by_cases h : dd < 0
    · exact absurd ⟨rfl, h⟩ hneg
    · omega)
  clear hneg
  go_upto_region 7 with fail
  go_cut [46] (fun s46 wx => s46 = .bool false ∧ w6 = wx)
  case first =>
    cases fb1 with
    | false =>
      try rw [Bool.false_and]
      go_wp2_with fail
      go_meet
      exact ⟨rfl, rfl⟩
    | true =>
    cases fb2 with
    | false =>
      go_wp2_with fail
      go_meet
      exact ⟨rfl, rfl⟩
    | true =>
      have hd0 : ¬ dd < 0 := fun h => HNG.out ⟨rfl, h⟩
      go_wp2_with fail
      go_meet
      exact ⟨rfl, rfl⟩
  case rest =>
  obtain ⟨rfl, rfl⟩ := hcut
  have hmk := make_rowM M (by have := HMB.out; omega)
  obtain ⟨w8, hw⟩ : ∃ w', w6.alloc (.cells (madeCells #[.int .i64 0] M) 3) = w' := ⟨_, rfl⟩
  have hz : Below w6.heap.size w6 w8 := by rw [← hw]; exact below_box _
  obtain ⟨w9, hw2⟩ : ∃ w', w8.alloc (.cells #[.slice (some ⟨w6.heap.size, 0, none⟩) M M, .int .i64 L, .int .i64 0] 38) = w' := ⟨_, rfl⟩
  have hz2 : Below w8.heap.size w8 w9 := by rw [← hw2]; exact below_box _
  have hs8 : w8.heap.size = w6.heap.size + 1 := by rw [← hw]; simp
  have L0 := Lib.hid (show RL w w6.heap.size M w8.heap.size L 0 (fun i => if N ≤ i then minK F (N - 1 - i) i else 0) w9 from
    ⟨RowF.congr (F := fun _ => 0) (RowF.under (by rw [← hw]; exact RowF.made w6 M) hz2) (fun i hi => by have := HNB.out; rw [if_neg (by omega)]),
     by rw [← hw2]; exact Cur3.new w8 _ _ _ _, (KRW.out.below hz).below hz2, ⟨by have := KRW.out.lt; omega, by omega⟩, (HBW.out.trans (hz.mono HBW.out.size)).trans (hz2.mono (hz.mono HBW.out.size |>.size |> fun h => by have := HBW.out.size; omega))⟩)
  have HB9 := Lib.hid (HB6.out.trans ((hz.trans (hz2.mono hz.size)).mono HB6.out.size))
  have HW := Lib.hid hw
  have HW2 := Lib.hid hw2
  clear hw hw2 hz hz2
  go_upto_region 10 with fail
  try rw [HW.out]
  try rw [HW2.out]
  try rw [hs8]
  rw [hs8] at L0
  obtain ⟨lb, hlb⟩ : ∃ B, w6.heap.size = B := ⟨_, rfl⟩
  rw [hlb] at L0
  try rw [hlb]
  have HLB := Lib.hid (show W2.heap.size ≤ lb by rw [← hlb]; exact HB6.out.size)
  have hN1 : IntKind.i64.wrap ((N : Int) - 1) = (N : Int) - 1 := IntWalk.i64_in _ ⟨by omega, by omega⟩
  have LT := Lib.hid (show (Value.int .i64 4611686018427387904) = .int .i64 (lowV F N N) by unfold lowV; rw [if_pos rfl])
  have hLB' := HLB.out
  clear HW HW2 hs8 hlb hmk
  go_wp2_with fail
  go_loopw [14, 15] (fun s14 s15 wx => ∃ k : Nat, s15 = .int .i64 ((k : Int) - 1) ∧ k ≤ N ∧ s14 = .int .i64 (lowV F N k) ∧ Hid (RL w lb M (lb + 1) L 0 (fun i => if k ≤ i then minK F (N - 1 - i) i else 0) wx) ∧ Hid (Below W2.heap.size W2 wx)) (fun _ s15 _ => (intOf s15 + 1).toNat)
  case atStart => exact ⟨N, by go_num, by omega, LT.out, L0, HB9⟩
  case round =>
  obtain ⟨k, rfl, hk, rfl, HS, HB⟩ := hrel
  obtain ⟨wk, rfl⟩ : ∃ u : World, u = wr := ⟨_, rfl⟩
  clear L0 HB9 LT
  by_cases hlt : 0 < k
  · obtain ⟨j, rfl⟩ : ∃ j, k = j + 1 := ⟨k - 1, by omega⟩
    have hj0 : ((j + 1 : Nat) : Int) - 1 = (j : Int) := by omega
    rw [hj0]
    have hj3 : (0 : Int) ≤ (j : Int) := by omega
    have hjw : IntKind.i64.wrap ((j : Int) - 1) = (j : Int) - 1 := IntWalk.i64_in _ ⟨by omega, by omega⟩
    obtain ⟨x, hx⟩ : ∃ x, lowV F N (j + 1) = x := ⟨_, rfl⟩
    rw [hx]
    obtain ⟨d, hd⟩ : ∃ d, F j = d := ⟨_, rfl⟩
    obtain ⟨v, hv⟩ : ∃ v, min x d = v := ⟨_, rfl⟩
    have HV := Lib.hid (show lowV F N j = v by
      rw [← hv, ← hx, ← hd]
      exact lowV_step (by omega) (HFI.out j (by have := HNB.out; omega)).1)
    have HD := Lib.hid (show encF (eDif y1 q1 j1 y2 q2 j2) j = d by rw [HFD.out]; exact hd)
    have HVM := Lib.hid hv
    clear hj0 hx hd hv
    go_upto_region 14 with fail
    obtain ⟨d0, d1, d2, d3, d4, d5⟩ := BX.out.1.box.below HB.out
    obtain ⟨e0, e1, e2, e3, e4, e5⟩ := BX.out.2.box.below HB.out
    go_cut [14] (fun s14 wx => s14 = .int .i64 v ∧ Hid (RL w lb M (lb + 1) L 0 (fun i => if j + 1 ≤ i then minK F (N - 1 - i) i else 0) wx) ∧ Hid (Below W2.heap.size W2 wx))
    case first =>
      go_wp2_with fail
      clear d0 d1 d2 d3 d4 d5 e0 e1 e2 e3 e4 e5
      with_reducible refine (rdif6_any b1 m1 c1 y1 q1 j1 GY.out.1 b2 m2 c2 y2 q2 j2 GY.out.2 j j rfl (by have := HNB.out; omega) d HD.out _ (BX.out.1.row.under HB.out) (BX.out.2.row.under HB.out)).mono ?_
      rintro e u3 ⟨rfl, hb⟩
      have HS1 := Lib.hid (HS.out.call hb)
      have HB1 := Lib.hid (HB.out.trans (hb.mono HB.out.size))
      clear hb
      by_cases hxd : x ≤ d
      · go_wp2_with fail
        go_meet
        exact ⟨by have := HVM.out; congr 1; omega, HS1, HB1⟩
      · go_wp2_with fail
        go_meet
        exact ⟨by have := HVM.out; congr 1; omega, HS1, HB1⟩
    case rest =>
    clear d0 d1 d2 d3 d4 d5 e0 e1 e2 e3 e4 e5 HS HB
    obtain ⟨rfl, HS1, HB1⟩ := hcut
    obtain ⟨w7, rfl⟩ : ∃ u : World, u = wc := ⟨_, rfl⟩
    obtain ⟨d0, d1, d2, d3, d4, d5⟩ := HS1.out.kd
    by_cases hjM : j < M
    · have hjMi : (j : Int) < (M : Int) := by omega
      obtain ⟨g0, g1⟩ := HS1.out.row.cell j hjM
      have HNEW := Lib.hid (HS1.out.set hjM v (F' := fun i => if j ≤ i then minK F (N - 1 - i) i else 0) (fun i hi => by
        by_cases e : i = j
        · subst e
          rw [if_pos rfl, if_pos (Nat.le_refl _)]
          have := HV.out
          unfold lowV at this
          rw [if_neg (by have := HNB.out; omega)] at this
          exact this.symm
        · rw [if_neg e]
          by_cases e2 : j + 1 ≤ i
          · rw [if_pos e2, if_pos (by omega)]
          · rw [if_neg e2, if_neg (by omega)]))
      go_wp2_with fail
      go_roundw
      case rel => exact ⟨j, by go_num, by omega, by rw [HV.out], HNEW, HB1.out.setCell (p := ⟨lb, j, none⟩) HLB.out _⟩
      case measure => simp [intOf] <;> omega
    · have hjMi : ¬ (j : Int) < (M : Int) := by omega
      have HNEW := Lib.hid (show RL w lb M (lb + 1) L 0 (fun i => if j ≤ i then minK F (N - 1 - i) i else 0) w7 from ⟨HS1.out.row.congr (fun i hi => by rw [if_neg (by omega), if_neg (by omega)]), HS1.out.kd, HS1.out.res, HS1.out.lb1, HS1.out.below⟩)
      go_wp2_with fail
      go_roundw
      case rel => exact ⟨j, by go_num, by omega, by rw [HV.out], HNEW, HB1⟩
      case measure => simp [intOf] <;> omega
  have hk0 : k = 0 := by omega
  subst hk0
  have e0 : ((0 : Nat) : Int) - 1 = -1 := rfl
  rw [e0]
  clear e0
  have L2 := Lib.hid (show RL w lb M (lb + 1) L 0 f wk from ⟨HS.out.row.congr (fun i hi => by
    rw [if_pos (Nat.zero_le _), ← HF.out, ← HFD.out]
    have h1 := HMn.out
    have h2 := HNn.out
    exact (above_win GY.out.1 GY.out.2 HLC.out.mult HST.out (by omega) (by omega) (by omega)).symm), HS.out.kd, HS.out.res, HS.out.lb1, HS.out.below⟩)
  clear HS
  by_cases hpos : (fb1 && fb2) = true ∧ 0 < dd
  · obtain ⟨hff, hd0⟩ := hpos
    have e12 : fb1 = true ∧ fb2 = true := by simpa using hff
    obtain ⟨rfl, rfl⟩ := e12
    clear hff
    have NF1 := Lib.hid (HI1.out rfl)
    have NF2 := Lib.hid (HI2.out rfl)
    obtain ⟨d0, d1, d2, d3, d4, d5⟩ := L2.out.kd
    have L3 := Lib.hid (L2.out.inc6 dd)
    have HB3 := Lib.hid (HB.out.setCell (p := ⟨lb + 1, 2, none⟩) (by show W2.heap.size ≤ lb + 1; omega) (.int .i64 dd))
    clear L2 HB
    go_wp2_with fail
    clear d0 d1 d2 d3 d4 d5
    go_loopw [16] (fun s16 wx => ∃ t : Nat, s16 = .int .i64 t ∧ 400 ≤ t ∧ t ≤ M ∧ Hid (∀ u, 400 ≤ u → u < t → 0 ≤ atC y1 q1 j1 u - atC y2 q2 j2 u) ∧ Hid (RL w lb M (lb + 1) L dd f wx) ∧ Hid (Below W2.heap.size W2 wx)) (fun s16 _ => M - (intOf s16).toNat)
    case atStart => exact ⟨400, by go_num, by omega, by omega, Lib.hid (fun u h1 h2 => by omega), L3, HB3⟩
    case round =>
    obtain ⟨t, rfl, ht4, htM, HA, HS, HB⟩ := hrel
    obtain ⟨wj, rfl⟩ : ∃ u : World, u = wr := ⟨_, rfl⟩
    clear L3 HB3
    by_cases htl : t < M
    · have htli : (t : Int) < (M : Int) := by omega
      obtain ⟨v, hv⟩ : ∃ v, atC y1 q1 j1 t - atC y2 q2 j2 t = v := ⟨_, rfl⟩
      have HV := Lib.hid hv
      obtain ⟨d0, d1, d2, d3, d4, d5⟩ := BX.out.1.box.below HB.out
      obtain ⟨e0, e1, e2, e3, e4, e5⟩ := BX.out.2.box.below HB.out
      clear hv
      go_wp2_with fail
      clear d0 d1 d2 d3 d4 d5 e0 e1 e2 e3 e4 e5
      refine (rraw6_any b1 m1 c1 y1 q1 j1 GY.out.1 b2 m2 c2 y2 q2 j2 GY.out.2 t t rfl (by have := HMB.out; omega) v HV.out _ (BX.out.1.row.under HB.out) (BX.out.2.row.under HB.out)).mono ?_
      rintro e u3 ⟨rfl, hb⟩
      by_cases hv0 : v < 0
      · have HP := Lib.hid (GivesE.postNo (E := eAbove z1 p1 i1 z2 p2 i2) (b := w.heap.size + 2) HS.out.below (by omega) hb (by
          rw [← HEE.out]
          exact above_fail GY.out.1 GY.out.2 HLC.out.mult NF1.out NF2.out (by rw [HSL.out]; exact hd0) ht4 (by rw [HV.out]; exact hv0)))
        obtain ⟨r0, r1, r2, r3, r4, r5⟩ := HS.out.res.below hb
        clear hb
        go_wp2_with fail
        exact bodyPost_ret (v := .tuple #[curV none 0 0 0 0, .int .i64 3]) (by simp [results, Try.results55, go_sem, r0, r1, r2]) rfl HP.out
      · have HS1 := Lib.hid (HS.out.call hb)
        have HB1 := Lib.hid (HB.out.trans (hb.mono HB.out.size))
        have HA1 := Lib.hid (show ∀ u, 400 ≤ u → u < t + 1 → 0 ≤ atC y1 q1 j1 u - atC y2 q2 j2 u from fun u h1 h2 => by
          by_cases e : u = t
          · subst e; rw [HV.out]; omega
          · exact HA.out u h1 (by omega))
        clear hb
        go_wp2_with fail
        go_roundw
        case rel => exact ⟨t + 1, by go_num, by omega, by omega, HA1, HS1, HB1⟩
        case measure => simp [intOf]; omega
    have htli : ¬ (t : Int) < (M : Int) := by omega
    have HTM := Lib.hid (show t = M by omega)
    obtain ⟨d0, d1, d2, d3, d4, d5⟩ := HS.out.kd
    go_wp2_with fail
    clear d0 d1 d2 d3 d4 d5
    have HRAW := Lib.hid (show RawE (firsts f M) L dd (eAbove y1 q1 j1 y2 q2 j2) by
      have hG : restG y1 q1 j1 y2 q2 j2 L = dd := by
        rw [restG_fin NF1.out NF2.out, HSL.out]; omega
      have hc := above_pass GY.out.1 GY.out.2 HLC.out.mult NF1.out NF2.out (by rw [HSL.out]; exact hd0) (fun u h1 h2 => HA.out u h1 (by have := HTM.out; have := HMn.out; omega))
      have h := above_raw GY.out.1 GY.out.2 HLC.out.mult HL.out.2 HST.out hc
      rw [hG, HF.out, ← HMn.out] at h
      exact h
    )
    refine (rmade_ok _ _ _ _ _ _ HRAW.out _ (HS.out.row.rowZ6 HMB.out.2 HIN.out)).mono ?_
    rintro e v9 ⟨hb, ⟨a9, n9, cap9, z9, p9, i9, rfl, hr, hf, hx⟩ | ⟨rfl, hno⟩⟩
    · have HP := Lib.hid (GivesE.post (E := eAbove z1 p1 i1 z2 p2 i2) (b := w.heap.size + 2) HS.out.below (by omega) HS.out.res.lt hb hr hx (by rw [← HEE.out]; exact hf))
      obtain ⟨r0, r1, r2, r3, r4, r5⟩ := HS.out.res.below hb
      clear hb hr hf hx
      go_wp2_with fail
      exact bodyPost_ret (v := .tuple #[curV a9 n9 cap9 p9 i9, .int .i64 0]) (by simp [results, Try.results55, go_sem, r0, r1, r2]) rfl HP.out
    · have HP := Lib.hid (GivesE.postNo (E := eAbove z1 p1 i1 z2 p2 i2) (b := w.heap.size + 2) HS.out.below (by omega) hb (by rw [← HEE.out]; exact hno))
      obtain ⟨r0, r1, r2, r3, r4, r5⟩ := HS.out.res.below hb
      clear hb hno
      go_wp2_with fail
      exact bodyPost_ret (v := .tuple #[curV none 0 0 0 0, .int .i64 3]) (by simp [results, Try.results55, go_sem, r0, r1, r2]) rfl HP.out
  have HPO := Lib.hid hpos
  clear hpos
  go_upto_region 17 with fail
  go_cut [81] (fun s81 wx => s81 = .bool false ∧ wk = wx)
  case first =>
    cases fb1 with
    | false =>
      try rw [Bool.false_and]
      go_wp2_with fail
      go_meet
      exact ⟨rfl, rfl⟩
    | true =>
    cases fb2 with
    | false =>
      go_wp2_with fail
      go_meet
      exact ⟨rfl, rfl⟩
    | true =>
      have hd0 : ¬ 0 < dd := fun h => HPO.out ⟨rfl, h⟩
      go_wp2_with fail
      go_meet
      exact ⟨rfl, rfl⟩
  case rest =>
  obtain ⟨rfl, rfl⟩ := hcut
  obtain ⟨d0, d1, d2, d3, d4, d5⟩ := L2.out.kd
  go_wp2_with fail
  clear d0 d1 d2 d3 d4 d5
  have HRAW := Lib.hid (show RawE (firsts f M) L 0 (eAbove y1 q1 j1 y2 q2 j2) by
    obtain ⟨hc, hG⟩ := above_flat GY.out.1 GY.out.2 HLC.out.mult (fun n1 n2 => by
      have h1 := HST.out n1 n2
      rw [HSL.out] at h1 ⊢
      have e1 := HJ1.out n1
      have e2 := HJ2.out n2
      subst e1; subst e2
      by_cases h : 0 < dd
      · exact absurd ⟨rfl, h⟩ HPO.out
      · omega)
    have h := above_raw GY.out.1 GY.out.2 HLC.out.mult HL.out.2 HST.out hc
    rw [hG, HF.out, ← HMn.out] at h
    exact h
  )
  refine (rmade_ok _ _ _ _ _ _ HRAW.out _ (L2.out.row.rowZ6 HMB.out.2 HIN.out)).mono ?_
  rintro e v9 ⟨hb, ⟨a9, n9, cap9, z9, p9, i9, rfl, hr, hf, hx⟩ | ⟨rfl, hno⟩⟩
  · have HP := Lib.hid (GivesE.post (E := eAbove z1 p1 i1 z2 p2 i2) (b := w.heap.size + 2) L2.out.below (by omega) L2.out.res.lt hb hr hx (by rw [← HEE.out]; exact hf))
    obtain ⟨r0, r1, r2, r3, r4, r5⟩ := L2.out.res.below hb
    clear hb hr hf hx
    go_wp2_with fail
    exact bodyPost_ret (v := .tuple #[curV a9 n9 cap9 p9 i9, .int .i64 0]) (by simp [results, Try.results55, go_sem, r0, r1, r2]) rfl HP.out
  · have HP := Lib.hid (GivesE.postNo (E := eAbove z1 p1 i1 z2 p2 i2) (b := w.heap.size + 2) L2.out.below (by omega) hb (by rw [← HEE.out]; exact hno))
    obtain ⟨r0, r1, r2, r3, r4, r5⟩ := L2.out.res.below hb
    clear hb hno
    go_wp2_with fail
    exact bodyPost_ret (v := .tuple #[curV none 0 0 0 0, .int .i64 3]) (by simp [results, Try.results55, go_sem, r0, r1, r2]) rfl HP.out

end Go.Proofs.Ytjipmkgnndldpaa
