/- The document's convolution. By the verifier's side. -/
import Derived.Test.YtcbocglakielnaaTRCo4
import Derived.Test.YtcbocglakielnaaTPwS
namespace Go.Proofs.Ytcbocglakielnaa
open Go.RowKit
set_option linter.unusedSimpArgs false
set_option linter.unusedVariables false

/-- What stands in Of: the normal forms, and the result's box. -/
structure OG (w : World) (A : Nat) (b1 : Option Addr) (m1 c1 : Nat) (y1 : List Int) (q1 : Nat) (j1 : Int) (b2 : Option Addr) (m2 c2 : Nat) (y2 : List Int) (q2 : Nat) (j2 : Int) (u : World) : Prop where
  xa : Bx u A b1 m1 c1 q1 j1 y1
  xb : Bx u (A + 1) b2 m2 c2 q2 j2 y2
  res : Cur3 u (w.heap.size + 2) (.slice none 0 0) (.int .i64 0) (.int .i64 0)
  below : Below w.heap.size w u
section
variable {w u v : World} {A : Nat} {b1 : Option Addr} {m1 c1 : Nat} {y1 : List Int} {q1 : Nat} {j1 : Int} {b2 : Option Addr} {m2 c2 : Nat} {y2 : List Int} {q2 : Nat} {j2 : Int}
theorem OG.call (h : OG w A b1 m1 c1 y1 q1 j1 b2 m2 c2 y2 q2 j2 u) (hb : Below u.heap.size u v) : OG w A b1 m1 c1 y1 q1 j1 b2 m2 c2 y2 q2 j2 v := ⟨h.xa.under hb, h.xb.under hb, h.res.below hb, h.below.trans (hb.mono h.below.size)⟩
/-- A store into a younger box. -/
theorem OG.lay (h : OG w A b1 m1 c1 y1 q1 j1 b2 m2 c2 y2 q2 j2 u) {B : Nat} (hA : w.heap.size + 3 ≤ A) (hB : A + 1 < B) (h1 : ∀ x, b1 = some x → 1 ≤ m1 → x.block ≠ B) (h2 : ∀ x, b2 = some x → 1 ≤ m2 → x.block ≠ B) (z0 z1 z2 : Value) : OG w A b1 m1 c1 y1 q1 j1 b2 m2 c2 y2 q2 j2 (((u.setCell ⟨B, 0, none⟩ z0).setCell ⟨B, 1, none⟩ z1).setCell ⟨B, 2, none⟩ z2) :=
  ⟨h.xa.lay3 (by omega) h1 _ _ _, h.xb.lay3 (by omega) h2 _ _ _, ((h.res.other (by omega) _ _).other (by omega) _ _).other (by omega) _ _, below_set3 h.below (by omega) _ _ _⟩
end

set_option maxRecDepth 100000 in
set_option maxHeartbeats 6400000 in
theorem rof7 (a1 : Option Addr) (n1 cap1 : Nat) (z1 : List Int) (p1 : Nat) (i1 : Int) (g1 : Good z1 p1 i1) (a2 : Option Addr) (n2 cap2 : Nat) (z2 : List Int) (p2 : Nat) (i2 : Int) (g2 : Good z2 p2 i2) (L : Nat) (hL : LcmN z1 p1 i1 z2 p2 i2 L) (hL2 : L ≤ 120) (w : World) (h1 : RowZ w a1 n1 cap1 z1) (h2 : RowZ w a2 n2 cap2 z2) :
    Calls Try.prog 36 #[curV a1 n1 cap1 p1 i1, curV a2 n2 cap2 p2 i2] w (GivesE (eConv z1 p1 i1 z2 p2 i2) w) := by
  have HG := Lib.hid (And.intro g1 g2)
  have HL := Lib.hid (And.intro hL hL2)
  obtain ⟨W, hW⟩ : ∃ W, ((w.alloc (.cells #[.slice a1 n1 cap1, .int .i64 p1, .int .i64 i1] 24)).alloc (.cells #[.slice a2 n2 cap2, .int .i64 p2, .int .i64 i2] 24)).alloc (.cells #[.slice none 0 0, .int .i64 0, .int .i64 0] 24) = W := ⟨_, rfl⟩
  obtain ⟨⟨hB, hWs⟩, k1, k2, kr⟩ := boxesB w a1 n1 cap1 p1 i1 a2 n2 cap2 p2 i2 hW
  have HB := Lib.hid hB
  have KR := Lib.hid kr
  have HR := Lib.hid (And.intro (h1.under hB) (h2.under hB))
  have HWS := Lib.hid hWs
  have hW1 := hW
  obtain ⟨m0, m1, m2, m3, m4, m5⟩ := k1
  obtain ⟨u0, u1, u2, u3, u4, u5⟩ := k2
  clear h1 h2 hB kr hW hWs g1 g2 hL hL2
  go_enter Try.func36, Try.ntmps36
  go_wp2_with fail
  try rw [hW1]
  clear hW1 m0 m1 m2 m3 m4 m5 u0 u1 u2 u3 u4 u5
  have hn120 : ¬ 120 < L := by have := HL.out.2; omega
  refine (rpair_any a1 n1 cap1 z1 p1 i1 HG.out.1 a2 n2 cap2 z2 p2 i2 HG.out.2 L HL.out.1 L 0 (if_neg hn120).symm (if_neg hn120).symm _ HR.out.1 HR.out.2).mono ?_
  rintro e v1 ⟨b1, m1, c1, y1, q1, j1, b2, m2, c2, y2, q2, j2, rfl, hb, hr1, hr2, hn1, hn2, hx1, hx2⟩
  obtain ⟨W2, hw⟩ : ∃ W2, (v1.alloc (.cells #[.slice b1 m1 c1, .int .i64 q1, .int .i64 j1] 24)).alloc (.cells #[.slice b2 m2 c2, .int .i64 q2, .int .i64 j2] 24) = W2 := ⟨_, rfl⟩
  have hz : Below v1.heap.size v1 W2 := by rw [← hw]; exact ((Below.refl _ _).alloc (Nat.le_refl _) _).alloc (by simp) _
  have hWz : Below W.heap.size W W2 := hb.trans (hz.mono hb.size)
  have KR2 := Lib.hid (KR.out.below hWz)
  have HB2 := Lib.hid (HB.out.trans (hWz.mono HB.out.size))
  have XA := Lib.hid (show Bx W2 v1.heap.size b1 m1 c1 q1 j1 y1 by rw [← hw]; exact (Bx.new hr1).under (box_below _ _))
  have XB := Lib.hid (show Bx W2 (v1.heap.size + 1) b2 m2 c2 q2 j2 y2 by
    rw [← hw]
    have := Bx.new (p := q2) (inc := j2) (hr2.under (box_below v1 (.cells #[.slice b1 m1 c1, .int .i64 q1, .int .i64 j1] 24)))
    simpa using this)
  have GY := Lib.hid (And.intro (hn1.good HG.out.1) (hn2.good HG.out.2))
  have HN := Lib.hid (And.intro hn1 hn2)
  have hLL : q1 / Nat.gcd q1 q2 * q2 = L := by
    obtain ⟨u1, r1, k1, u2, r2, k2, n1, n2, e⟩ := HL.out.1
    obtain ⟨_, rfl, _⟩ := n1.canon HG.out.1 HG.out.1 hn1 (fun _ => rfl)
    obtain ⟨_, rfl, _⟩ := n2.canon HG.out.2 HG.out.2 hn2 (fun _ => rfl)
    exact e
  have HLC := Lib.hid (lcm_of GY.out.1.p1 GY.out.2.p1 hLL)
  have hs1 : w.heap.size + 3 ≤ v1.heap.size := by have := hb.size; have := HWS.out; omega
  have HEQ := Lib.hid (And.intro (hn1.eform HG.out.1).2.1 (hn2.eform HG.out.2).2.1)
  have hw1 := hw
  obtain ⟨A, hA⟩ : ∃ A, v1.heap.size = A := ⟨_, rfl⟩
  rw [hA] at XA XB hs1
  obtain ⟨g0, g1, g2, g3, g4, g5⟩ := XA.out.box
  obtain ⟨d0, d1, d2, d3, d4, d5⟩ := XB.out.box
  have hL1 := HLC.out.one
  have hL120 := HL.out.2
  have q11 := GY.out.1.p1
  have q12 := GY.out.1.p2
  have q21 := GY.out.2.p1
  have q22 := GY.out.2.p2
  have bj1 := GY.out.1.i0
  have bj1' := GY.out.1.i1
  have bj2 := GY.out.2.i0
  have bj2' := GY.out.2.i1
  clear hb hr1 hr2 hn1 hn2 hx1 hx2 hw hz hWz hLL hn120
  have HM := Lib.hid HLC.out.mult
  have HEE := Lib.hid (show (eConv y1 q1 j1 y2 q2 j2) = eConv z1 p1 i1 z2 p2 i2 by unfold eConv; rw [funext HEQ.out.1, funext HEQ.out.2])
  have OG0 := Lib.hid (show OG w A b1 m1 c1 y1 q1 j1 b2 m2 c2 y2 q2 j2 W2 from ⟨XA.out, XB.out, KR2.out, HB2.out⟩)
  have hm1 : m1 ≤ 400 := by have := XA.out.row.len; have := GY.out.1.few; omega
  have hm2 : m2 ≤ 400 := by have := XB.out.row.len; have := GY.out.2.few; omega
  have B1 := Lib.hid (show (q1 ≤ m1 ∧ m1 ≤ 100000) ∧ (q2 ≤ m2 ∧ m2 ≤ 100000) by have := XA.out.row.len; have := XB.out.row.len; have := GY.out.1.p3; have := GY.out.2.p3; omega)
  have FR := Lib.hid (And.intro XA.out.row.far XB.out.row.far)
  obtain ⟨sa, hsa⟩ : ∃ v, m1 - q1 = v := ⟨_, rfl⟩
  obtain ⟨sb, hsb⟩ : ∃ v, m2 - q2 = v := ⟨_, rfl⟩
  have HSS := Lib.hid (show y1.length - q1 = sa ∧ y2.length - q2 = sb by rw [XA.out.row.len, XB.out.row.len]; exact ⟨hsa, hsb⟩)
  have HSI := Lib.hid (show ((m1 - q1 : Nat) : Int) = sa ∧ ((m2 - q2 : Nat) : Int) = sb by omega)
  obtain ⟨dd, hd2⟩ : ∃ d, 2 * L = d := ⟨_, rfl⟩
  obtain ⟨ss, hss⟩ : ∃ d, sa + sb = d := ⟨_, rfl⟩
  obtain ⟨fr, hfr⟩ : ∃ fr, ss + dd = fr := ⟨_, rfl⟩
  obtain ⟨f2, hf2⟩ : ∃ fr, 800 + dd = fr := ⟨_, rfl⟩
  have e1 : (sa : Int) + (sb : Int) = (ss : Int) := by omega
  have e2 : (2 : Int) * (L : Int) = (dd : Int) := by omega
  have e3 : (ss : Int) + (dd : Int) = (fr : Int) := by omega
  have e4 : (800 : Int) + (dd : Int) = (f2 : Int) := by omega
  have w1' : IntKind.i64.wrap (ss : Int) = (ss : Int) := IntWalk.i64_in _ ⟨by omega, by omega⟩
  have w2' : IntKind.i64.wrap (dd : Int) = (dd : Int) := IntWalk.i64_in _ ⟨by omega, by omega⟩
  have w3' : IntKind.i64.wrap (fr : Int) = (fr : Int) := IntWalk.i64_in _ ⟨by omega, by omega⟩
  have w4' : IntKind.i64.wrap (f2 : Int) = (f2 : Int) := IntWalk.i64_in _ ⟨by omega, by omega⟩
  have HF2 := Lib.hid (show f2 = 800 + 2 * L by omega)
  have HFR := Lib.hid (show (y1.length - q1 + (y2.length - q2) + L ≤ fr ∧ fr ≤ 1100) ∧ (y1.length - q1 + (y2.length - q2) + L ≤ f2 ∧ f2 ≤ 1100) by rw [HSS.out.1, HSS.out.2]; omega)
  clear hsa hsb hfr hd2 hss hf2
  go_upto_region 4 with fail
  try rw [hw1]
  try rw [hA]
  clear hw1
  clear g0 g1 g2 g3 g4 g5 d0 d1 d2 d3 d4 d5
  clear KR2 HB2 XA XB
  have KS := Lib.hid (show ∀ u, OG w A b1 m1 c1 y1 q1 j1 b2 m2 c2 y2 q2 j2 u → ((u.cell? ⟨A, 0, none⟩ = some (.slice b1 m1 c1) ∧ u.cell? ⟨A, 1, none⟩ = some (.int .i64 q1) ∧ u.cell? ⟨A, 2, none⟩ = some (.int .i64 j1)) ∧ (u.cell? ⟨A + 1, 0, none⟩ = some (.slice b2 m2 c2) ∧ u.cell? ⟨A + 1, 1, none⟩ = some (.int .i64 q2) ∧ u.cell? ⟨A + 1, 2, none⟩ = some (.int .i64 j2)) ∧ Hid (OG w A b1 m1 c1 y1 q1 j1 b2 m2 c2 y2 q2 j2 u)) from fun u h => ⟨⟨h.xa.box.c0, h.xa.box.c1, h.xa.box.c2⟩, ⟨h.xb.box.c0, h.xb.box.c1, h.xb.box.c2⟩, h⟩)
  have Q0 := Lib.hid (And.intro (OG0.out.call (Below.refl _ _).drew) (show W2.heap.size ≤ W2.drew.heap.size from Nat.le_refl _))
  have HA2 := Lib.hid (show A + 1 < W2.heap.size from OG0.out.xb.box.lt)
  go_cut [10, 11] (fun s10 s11 wx => ∃ (B : Nat) (a5 : Option Addr) (n5 cap5 : Nat) (zs5 : List Int) (p5 : Nat) (inc5 : Int) (ok : Bool), s10 = .pointer (some ⟨B, 0, none⟩) ∧ s11 = .bool ok ∧ A + 1 < B ∧ Hid (OG w A b1 m1 c1 y1 q1 j1 b2 m2 c2 y2 q2 j2 wx) ∧ Hid (Bx wx B a5 n5 cap5 p5 inc5 zs5) ∧ Hid (∀ x, a5 = some x → w.heap.size + 3 ≤ x.block) ∧ Hid (In64 p5 ∧ In64 inc5) ∧ Hid (ok = true → (Good zs5 p5 inc5 → EForm zs5 p5 inc5 (eConv y1 q1 j1 y2 q2 j2)) ∧ (¬ Good zs5 p5 inc5 → ¬ ECan (eConv y1 q1 j1 y2 q2 j2))) ∧ Hid (W2.heap.size ≤ B ∧ ∀ x, a5 = some x → 1 ≤ n5 → x.block ≠ B))
  case first =>
    refine wp_region_keeps (fun u => (u.cell? ⟨A, 0, none⟩ = some (.slice b1 m1 c1) ∧ u.cell? ⟨A, 1, none⟩ = some (.int .i64 q1) ∧ u.cell? ⟨A, 2, none⟩ = some (.int .i64 j1)) ∧ (u.cell? ⟨A + 1, 0, none⟩ = some (.slice b2 m2 c2) ∧ u.cell? ⟨A + 1, 1, none⟩ = some (.int .i64 q2) ∧ u.cell? ⟨A + 1, 2, none⟩ = some (.int .i64 j2)) ∧ Hid (OG w A b1 m1 c1 y1 q1 j1 b2 m2 c2 y2 q2 j2 u)) 17 1 (by kernel_rfl) (by kernel_rfl) (KS.out _ Q0.out.1) (fun hHeld0 => ?_)
    refine wpAnyK_take (i := 0) (v := ?_) rfl (by kernel_rfl) (fun _ _ _ h => h) (Or.inl ⟨by rfl, ?_⟩) (by assumption) ?_
    rotate_left
    · (intro w hSw; (try dsimp only at hSw); go_simp; try with_reducible rfl)
    try simp only [Act.put, List.getElem_toArray, List.getElem_cons_zero, List.getElem_cons_succ, List.setIfInBounds_toArray, List.set_cons_zero, List.set_cons_succ]
    refine wpAnyK_take (i := 1) (v := ?_) rfl (by kernel_rfl) (fun _ _ _ h => h) (Or.inl ⟨by rfl, ?_⟩) (by assumption) ?_
    rotate_left
    · (intro w hSw; (try dsimp only at hSw); go_simp; try with_reducible rfl)
    try simp only [Act.put, List.getElem_toArray, List.getElem_cons_zero, List.getElem_cons_succ, List.setIfInBounds_toArray, List.set_cons_zero, List.set_cons_succ]
    refine wpAnyK_take (i := 2) (v := ?_) rfl (by kernel_rfl) (fun _ _ _ h => h) (Or.inl ⟨by rfl, ?_⟩) (by assumption) ?_
    rotate_left
    · (intro w hSw; (try dsimp only at hSw); go_simp; try with_reducible rfl)
    try simp only [Act.put, List.getElem_toArray, List.getElem_cons_zero, List.getElem_cons_succ, List.setIfInBounds_toArray, List.set_cons_zero, List.set_cons_succ]
    refine wpAnyK_take (i := 3) (v := ?_) rfl (by kernel_rfl) (fun _ _ _ h => h) (Or.inl ⟨by rfl, ?_⟩) (by assumption) ?_
    rotate_left
    · (intro w hSw; (try dsimp only at hSw); go_simp; try with_reducible rfl)
    try simp only [Act.put, List.getElem_toArray, List.getElem_cons_zero, List.getElem_cons_succ, List.setIfInBounds_toArray, List.set_cons_zero, List.set_cons_succ]
    refine wpAnyK_take (i := 5) (v := ?_) rfl (by kernel_rfl) (fun _ _ _ h => h) (Or.inl ⟨by rfl, ?_⟩) (by assumption) ?_
    rotate_left
    · (intro w hSw; (try dsimp only at hSw); go_simp; try with_reducible rfl)
    try simp only [Act.put, List.getElem_toArray, List.getElem_cons_zero, List.getElem_cons_succ, List.setIfInBounds_toArray, List.set_cons_zero, List.set_cons_succ]
    refine wpAnyK_take (i := 8) (v := ?_) rfl (by kernel_rfl) (fun _ _ _ h => h) (Or.inl ⟨by rfl, ?_⟩) (by assumption) ?_
    rotate_left
    · (intro w hSw; (try dsimp only at hSw); go_simp; try with_reducible rfl)
    try simp only [Act.put, List.getElem_toArray, List.getElem_cons_zero, List.getElem_cons_succ, List.setIfInBounds_toArray, List.set_cons_zero, List.set_cons_succ]
    refine wpAnyK_take (i := 9) (v := ?_) rfl (by kernel_rfl) (fun _ _ _ h => h) (Or.inl ⟨by rfl, ?_⟩) (by assumption) ?_
    rotate_left
    · (intro w hSw; (try dsimp only at hSw); go_simp; try with_reducible rfl)
    try simp only [Act.put, List.getElem_toArray, List.getElem_cons_zero, List.getElem_cons_succ, List.setIfInBounds_toArray, List.set_cons_zero, List.set_cons_succ]
    refine wpAnyK_two (i := 4) (j := 15) rfl rfl (by kernel_rfl) (fun K hK => ?_) (fun K hK => ?_)
    · go_simp
      with_reducible refine (start7 b1 m1 c1 q1 j1 B1.out.1.1 B1.out.1.2 sa HSI.out.1 _).mono ?_
      rintro e x1 ⟨rfl, hb⟩
      have T1 := Lib.hid (And.intro (Q0.out.1.call hb) (show W2.heap.size ≤ x1.heap.size from Nat.le_trans Q0.out.2 hb.size))
      refine hK.out _ _ (KS.out _ T1.out.1) (fun hHeld_1 => ?_)
      clear hK K hHeld0 hb
      try simp only [Act.put, List.getElem_toArray, List.getElem_cons_zero, List.getElem_cons_succ, List.setIfInBounds_toArray, List.set_cons_zero, List.set_cons_succ]
      refine wpAnyK_two (i := 6) (j := 15) rfl rfl (by kernel_rfl) (fun K hK => ?_) (fun K hK => ?_)
      · go_simp
        with_reducible refine (start7 b2 m2 c2 q2 j2 B1.out.2.1 B1.out.2.2 sb HSI.out.2 _).mono ?_
        rintro e x2 ⟨rfl, hb⟩
        have T2 := Lib.hid (And.intro (T1.out.1.call hb) (show W2.heap.size ≤ x2.heap.size from Nat.le_trans T1.out.2 hb.size))
        refine hK.out _ _ (KS.out _ T2.out.1) (fun hHeld_2 => ?_)
        clear hK K hHeld_1 hb
        try simp only [Act.put, List.getElem_toArray, List.getElem_cons_zero, List.getElem_cons_succ, List.setIfInBounds_toArray, List.set_cons_zero, List.set_cons_succ]
        refine wpAnyK_take (i := 7) (v := ?_) rfl (by kernel_rfl) (fun _ _ _ h => h) (Or.inl ⟨by rfl, ?_⟩) (by assumption) ?_
        rotate_left
        · (intro w hSw; (try dsimp only at hSw); go_simp; try with_reducible rfl)
        try simp only [Act.put, List.getElem_toArray, List.getElem_cons_zero, List.getElem_cons_succ, List.setIfInBounds_toArray, List.set_cons_zero, List.set_cons_succ]
        refine wpAnyK_take (i := 10) (v := ?_) rfl (by kernel_rfl) (fun _ _ _ h => h) (Or.inl ⟨by rfl, ?_⟩) (by assumption) ?_
        rotate_left
        · (intro w hSw; (try dsimp only at hSw); go_simp; try with_reducible rfl)
        try simp only [Act.put, List.getElem_toArray, List.getElem_cons_zero, List.getElem_cons_succ, List.setIfInBounds_toArray, List.set_cons_zero, List.set_cons_succ]
        refine wpAnyK_two (i := 11) (j := 15) rfl rfl (by kernel_rfl) (fun K hK => ?_) (fun K hK => ?_)
        · go_simp
          with_reducible refine (guess7 b1 m1 c1 y1 q1 j1 GY.out.1 b2 m2 c2 y2 q2 j2 GY.out.2 L HM.out hL120 fr HFR.out.1.1 HFR.out.1.2 _ T2.out.1.xa.row T2.out.1.xb.row).mono ?_
          rintro e x3 ⟨a5, n5, cap5, zs5, p5, inc5, ok5, rfl, hb, hr, h64, hs, _, hx⟩
          have RX := Lib.hid hr
          have I8 := Lib.hid h64
          have K8 := Lib.hid hs
          have XX := Lib.hid (show ∀ x, a5 = some x → W2.heap.size ≤ x.block ∧ x2.heap.size ≤ x.block from fun x e => by have := hx x e; have := T2.out.2; omega)
          clear hr h64 hs hx
          have T3 := Lib.hid (And.intro (T2.out.1.call hb) (show W2.heap.size ≤ x3.heap.size from Nat.le_trans T2.out.2 hb.size))
          refine hK.out _ _ (KS.out _ T3.out.1) (fun hHeld_3 => ?_)
          clear hK K hHeld_2 hb
          try simp only [Act.put, List.getElem_toArray, List.getElem_cons_zero, List.getElem_cons_succ, List.setIfInBounds_toArray, List.set_cons_zero, List.set_cons_succ]
          refine wpAnyK_take (i := 12) (v := ?_) rfl (by kernel_rfl) (fun _ _ _ h => h) (Or.inl ⟨by rfl, ?_⟩) (by assumption) ?_
          rotate_left
          · (intro w hSw; (try dsimp only at hSw); go_simp; try with_reducible rfl)
          try simp only [Act.put, List.getElem_toArray, List.getElem_cons_zero, List.getElem_cons_succ, List.setIfInBounds_toArray, List.set_cons_zero, List.set_cons_succ]
          refine wpAnyK_take (i := 13) (v := ?_) rfl (by kernel_rfl) (fun _ _ _ h => h) (Or.inl ⟨by rfl, ?_⟩) (by assumption) ?_
          rotate_left
          · (intro w hSw; (try dsimp only at hSw); go_simp; try with_reducible rfl)
          try simp only [Act.put, List.getElem_toArray, List.getElem_cons_zero, List.getElem_cons_succ, List.setIfInBounds_toArray, List.set_cons_zero, List.set_cons_succ]
          refine wpAnyK_take (i := 14) (v := ?_) rfl (by kernel_rfl) (fun _ _ _ h => h) (Or.inl ⟨by rfl, ?_⟩) (by assumption) ?_
          rotate_left
          · (intro w hSw; (try dsimp only at hSw); go_simp; try with_reducible rfl)
          try simp only [Act.put, List.getElem_toArray, List.getElem_cons_zero, List.getElem_cons_succ, List.setIfInBounds_toArray, List.set_cons_zero, List.set_cons_succ]
          refine wpAnyK_step (i := 15) rfl (by kernel_rfl) (fun K hK => ?_)
          go_simp
          obtain ⟨x4, hu4⟩ : ∃ W', x3.alloc (.cells #[.slice none 0 0, .int .i64 0, .int .i64 0] 24) = W' := ⟨_, rfl⟩
          have hv4 := hu4
          have hb4 : Below x3.heap.size x3 x4 := by rw [← hu4]; exact below_box _
          have N4 := Lib.hid (show Cur3 x4 x3.heap.size (.slice none 0 0) (.int .i64 0) (.int .i64 0) ∧ W2.heap.size ≤ x3.heap.size from ⟨by rw [← hu4]; exact Cur3.new x3 _ _ _ _, T3.out.2⟩)
          have T4 := Lib.hid (And.intro (T3.out.1.call hb4) (show W2.heap.size ≤ x4.heap.size from Nat.le_trans T3.out.2 hb4.size))
          have RXb := Lib.hid (RX.out.under hb4)
          have XXb := Lib.hid (show ∀ x, a5 = some x → 1 ≤ n5 → x.block < x3.heap.size from RX.out.far)
          rw [hv4]
          clear hu4 hv4
          refine hK.out _ _ (KS.out _ T4.out.1) (fun hHeld_4 => ?_)
          clear hK K hHeld_3 hb4
          try simp only [Act.put, List.getElem_toArray, List.getElem_cons_zero, List.getElem_cons_succ, List.setIfInBounds_toArray, List.set_cons_zero, List.set_cons_succ]
          have hN := N4.out
          have hT := T4.out
          have hQ : ∀ x, a5 = some x → 1 ≤ n5 → x.block ≠ x3.heap.size := fun x e q => by have := XXb.out x e q; omega
          have HX8 := Lib.hid (show Bx (((x4.setCell ⟨x3.heap.size, 0, none⟩ (.slice a5 n5 cap5)).setCell ⟨x3.heap.size, 1, none⟩ (.int .i64 p5)).setCell ⟨x3.heap.size, 2, none⟩ (.int .i64 inc5)) x3.heap.size a5 n5 cap5 p5 inc5 zs5 from ⟨hN.1.set _ _ _, ((RXb.out.store hQ _ _).store hQ _ _).store hQ _ _⟩)
          have HA8 := HA2.out
          have HP8 := Lib.hid (show OG w A b1 m1 c1 y1 q1 j1 b2 m2 c2 y2 q2 j2 (((x4.setCell ⟨x3.heap.size, 0, none⟩ (.slice a5 n5 cap5)).setCell ⟨x3.heap.size, 1, none⟩ (.int .i64 p5)).setCell ⟨x3.heap.size, 2, none⟩ (.int .i64 inc5)) from hT.1.lay hs1 (by omega) (fun x e q => by have := FR.out.1 x e q; omega) (fun x e q => by have := FR.out.2 x e q; omega) _ _ _)
          have HQ8 := Lib.hid (show W2.heap.size ≤ x3.heap.size ∧ ∀ x, a5 = some x → 1 ≤ n5 → x.block ≠ x3.heap.size from ⟨by omega, hQ⟩)
          have F8 := Lib.hid (show ∀ x, a5 = some x → w.heap.size + 3 ≤ x.block from fun x e => by have := XX.out x e; omega)
          have hAB8 : A + 1 < x3.heap.size := by omega
          obtain ⟨n0, n1, n2, n3, n4, n5'⟩ := hN.1
          clear hN hT hQ HA8
          refine wpAnyK_step (i := 16) rfl (by kernel_rfl) (fun K hK => ?_)
          go_simp
          refine hK.out _ _ (KS.out _ HP8.out) (fun hHeld9 => ?_)
          clear hK K hHeld_4
          try simp only [Act.put, List.getElem_toArray, List.getElem_cons_zero, List.getElem_cons_succ, List.setIfInBounds_toArray, List.set_cons_zero, List.set_cons_succ]
          refine wpAnyK_done (by kernel_rfl) ?_
          simp only [List.drop_succ_cons, List.drop_zero]
          clear hHeld9
          go_wp2_with fail
          go_meet
          exact ⟨x3.heap.size, a5, n5, cap5, zs5, p5, inc5, ok5, rfl, rfl, hAB8, HP8, HX8, F8, I8, K8, HQ8⟩
        · go_simp
          obtain ⟨x5, hu5⟩ : ∃ W', x2.alloc (.cells #[.slice none 0 0, .int .i64 0, .int .i64 0] 24) = W' := ⟨_, rfl⟩
          have hv5 := hu5
          have hb5 : Below x2.heap.size x2 x5 := by rw [← hu5]; exact below_box _
          have N5 := Lib.hid (show Cur3 x5 x2.heap.size (.slice none 0 0) (.int .i64 0) (.int .i64 0) ∧ W2.heap.size ≤ x2.heap.size from ⟨by rw [← hu5]; exact Cur3.new x2 _ _ _ _, T2.out.2⟩)
          have T5 := Lib.hid (And.intro (T2.out.1.call hb5) (show W2.heap.size ≤ x5.heap.size from Nat.le_trans T2.out.2 hb5.size))
          rw [hv5]
          clear hu5 hv5
          refine hK.out _ _ (KS.out _ T5.out.1) (fun hHeld_5 => ?_)
          clear hK K hHeld_2 hb5
          try simp only [Act.put, List.getElem_toArray, List.getElem_cons_zero, List.getElem_cons_succ, List.setIfInBounds_toArray, List.set_cons_zero, List.set_cons_succ]
          refine wpAnyK_step (i := 11) rfl (by kernel_rfl) (fun K hK => ?_)
          go_simp
          with_reducible refine (guess7 b1 m1 c1 y1 q1 j1 GY.out.1 b2 m2 c2 y2 q2 j2 GY.out.2 L HM.out hL120 fr HFR.out.1.1 HFR.out.1.2 _ T5.out.1.xa.row T5.out.1.xb.row).mono ?_
          rintro e x6 ⟨a5, n5, cap5, zs5, p5, inc5, ok5, rfl, hb, hr, h64, hs, _, hx⟩
          have RX := Lib.hid hr
          have I8 := Lib.hid h64
          have K8 := Lib.hid hs
          have XX := Lib.hid (show ∀ x, a5 = some x → W2.heap.size ≤ x.block ∧ x5.heap.size ≤ x.block from fun x e => by have := hx x e; have := T5.out.2; omega)
          clear hr h64 hs hx
          have T6 := Lib.hid (And.intro (T5.out.1.call hb) (show W2.heap.size ≤ x6.heap.size from Nat.le_trans T5.out.2 hb.size))
          have N5_6 := Lib.hid (And.intro (N5.out.1.below hb) N5.out.2)
          have LB6 := Lib.hid (show x2.heap.size < x5.heap.size from N5.out.1.lt)
          refine hK.out _ _ (KS.out _ T6.out.1) (fun hHeld_6 => ?_)
          clear hK K hHeld_5 hb
          try simp only [Act.put, List.getElem_toArray, List.getElem_cons_zero, List.getElem_cons_succ, List.setIfInBounds_toArray, List.set_cons_zero, List.set_cons_succ]
          refine wpAnyK_take (i := 12) (v := ?_) rfl (by kernel_rfl) (fun _ _ _ h => h) (Or.inl ⟨by rfl, ?_⟩) (by assumption) ?_
          rotate_left
          · (intro w hSw; (try dsimp only at hSw); go_simp; try with_reducible rfl)
          try simp only [Act.put, List.getElem_toArray, List.getElem_cons_zero, List.getElem_cons_succ, List.setIfInBounds_toArray, List.set_cons_zero, List.set_cons_succ]
          refine wpAnyK_take (i := 13) (v := ?_) rfl (by kernel_rfl) (fun _ _ _ h => h) (Or.inl ⟨by rfl, ?_⟩) (by assumption) ?_
          rotate_left
          · (intro w hSw; (try dsimp only at hSw); go_simp; try with_reducible rfl)
          try simp only [Act.put, List.getElem_toArray, List.getElem_cons_zero, List.getElem_cons_succ, List.setIfInBounds_toArray, List.set_cons_zero, List.set_cons_succ]
          refine wpAnyK_take (i := 14) (v := ?_) rfl (by kernel_rfl) (fun _ _ _ h => h) (Or.inl ⟨by rfl, ?_⟩) (by assumption) ?_
          rotate_left
          · (intro w hSw; (try dsimp only at hSw); go_simp; try with_reducible rfl)
          try simp only [Act.put, List.getElem_toArray, List.getElem_cons_zero, List.getElem_cons_succ, List.setIfInBounds_toArray, List.set_cons_zero, List.set_cons_succ]
          have hN := N5_6.out
          have hT := T6.out
          have hQ : ∀ x, a5 = some x → 1 ≤ n5 → x.block ≠ x2.heap.size := fun x e _ => by have := (XX.out x e).2; have := LB6.out; omega
          have HX8 := Lib.hid (show Bx (((x6.setCell ⟨x2.heap.size, 0, none⟩ (.slice a5 n5 cap5)).setCell ⟨x2.heap.size, 1, none⟩ (.int .i64 p5)).setCell ⟨x2.heap.size, 2, none⟩ (.int .i64 inc5)) x2.heap.size a5 n5 cap5 p5 inc5 zs5 from ⟨hN.1.set _ _ _, ((RX.out.store hQ _ _).store hQ _ _).store hQ _ _⟩)
          have HA8 := HA2.out
          have HP8 := Lib.hid (show OG w A b1 m1 c1 y1 q1 j1 b2 m2 c2 y2 q2 j2 (((x6.setCell ⟨x2.heap.size, 0, none⟩ (.slice a5 n5 cap5)).setCell ⟨x2.heap.size, 1, none⟩ (.int .i64 p5)).setCell ⟨x2.heap.size, 2, none⟩ (.int .i64 inc5)) from hT.1.lay hs1 (by omega) (fun x e q => by have := FR.out.1 x e q; omega) (fun x e q => by have := FR.out.2 x e q; omega) _ _ _)
          have HQ8 := Lib.hid (show W2.heap.size ≤ x2.heap.size ∧ ∀ x, a5 = some x → 1 ≤ n5 → x.block ≠ x2.heap.size from ⟨by omega, hQ⟩)
          have F8 := Lib.hid (show ∀ x, a5 = some x → w.heap.size + 3 ≤ x.block from fun x e => by have := XX.out x e; omega)
          have hAB8 : A + 1 < x2.heap.size := by omega
          obtain ⟨n0, n1, n2, n3, n4, n5'⟩ := hN.1
          clear hN hT hQ HA8
          refine wpAnyK_step (i := 16) rfl (by kernel_rfl) (fun K hK => ?_)
          go_simp
          refine hK.out _ _ (KS.out _ HP8.out) (fun hHeld9 => ?_)
          clear hK K hHeld_6
          try simp only [Act.put, List.getElem_toArray, List.getElem_cons_zero, List.getElem_cons_succ, List.setIfInBounds_toArray, List.set_cons_zero, List.set_cons_succ]
          refine wpAnyK_done (by kernel_rfl) ?_
          simp only [List.drop_succ_cons, List.drop_zero]
          clear hHeld9
          go_wp2_with fail
          go_meet
          exact ⟨x2.heap.size, a5, n5, cap5, zs5, p5, inc5, ok5, rfl, rfl, hAB8, HP8, HX8, F8, I8, K8, HQ8⟩
      · go_simp
        obtain ⟨x7, hu7⟩ : ∃ W', x1.alloc (.cells #[.slice none 0 0, .int .i64 0, .int .i64 0] 24) = W' := ⟨_, rfl⟩
        have hv7 := hu7
        have hb7 : Below x1.heap.size x1 x7 := by rw [← hu7]; exact below_box _
        have N7 := Lib.hid (show Cur3 x7 x1.heap.size (.slice none 0 0) (.int .i64 0) (.int .i64 0) ∧ W2.heap.size ≤ x1.heap.size from ⟨by rw [← hu7]; exact Cur3.new x1 _ _ _ _, T1.out.2⟩)
        have T7 := Lib.hid (And.intro (T1.out.1.call hb7) (show W2.heap.size ≤ x7.heap.size from Nat.le_trans T1.out.2 hb7.size))
        rw [hv7]
        clear hu7 hv7
        refine hK.out _ _ (KS.out _ T7.out.1) (fun hHeld_7 => ?_)
        clear hK K hHeld_1 hb7
        try simp only [Act.put, List.getElem_toArray, List.getElem_cons_zero, List.getElem_cons_succ, List.setIfInBounds_toArray, List.set_cons_zero, List.set_cons_succ]
        refine wpAnyK_step (i := 6) rfl (by kernel_rfl) (fun K hK => ?_)
        go_simp
        with_reducible refine (start7 b2 m2 c2 q2 j2 B1.out.2.1 B1.out.2.2 sb HSI.out.2 _).mono ?_
        rintro e x8 ⟨rfl, hb⟩
        have T8 := Lib.hid (And.intro (T7.out.1.call hb) (show W2.heap.size ≤ x8.heap.size from Nat.le_trans T7.out.2 hb.size))
        have N7_8 := Lib.hid (And.intro (N7.out.1.below hb) N7.out.2)
        refine hK.out _ _ (KS.out _ T8.out.1) (fun hHeld_8 => ?_)
        clear hK K hHeld_7 hb
        try simp only [Act.put, List.getElem_toArray, List.getElem_cons_zero, List.getElem_cons_succ, List.setIfInBounds_toArray, List.set_cons_zero, List.set_cons_succ]
        refine wpAnyK_take (i := 7) (v := ?_) rfl (by kernel_rfl) (fun _ _ _ h => h) (Or.inl ⟨by rfl, ?_⟩) (by assumption) ?_
        rotate_left
        · (intro w hSw; (try dsimp only at hSw); go_simp; try with_reducible rfl)
        try simp only [Act.put, List.getElem_toArray, List.getElem_cons_zero, List.getElem_cons_succ, List.setIfInBounds_toArray, List.set_cons_zero, List.set_cons_succ]
        refine wpAnyK_take (i := 10) (v := ?_) rfl (by kernel_rfl) (fun _ _ _ h => h) (Or.inl ⟨by rfl, ?_⟩) (by assumption) ?_
        rotate_left
        · (intro w hSw; (try dsimp only at hSw); go_simp; try with_reducible rfl)
        try simp only [Act.put, List.getElem_toArray, List.getElem_cons_zero, List.getElem_cons_succ, List.setIfInBounds_toArray, List.set_cons_zero, List.set_cons_succ]
        refine wpAnyK_step (i := 11) rfl (by kernel_rfl) (fun K hK => ?_)
        go_simp
        with_reducible refine (guess7 b1 m1 c1 y1 q1 j1 GY.out.1 b2 m2 c2 y2 q2 j2 GY.out.2 L HM.out hL120 fr HFR.out.1.1 HFR.out.1.2 _ T8.out.1.xa.row T8.out.1.xb.row).mono ?_
        rintro e x9 ⟨a5, n5, cap5, zs5, p5, inc5, ok5, rfl, hb, hr, h64, hs, _, hx⟩
        have RX := Lib.hid hr
        have I8 := Lib.hid h64
        have K8 := Lib.hid hs
        have XX := Lib.hid (show ∀ x, a5 = some x → W2.heap.size ≤ x.block ∧ x8.heap.size ≤ x.block from fun x e => by have := hx x e; have := T8.out.2; omega)
        clear hr h64 hs hx
        have T9 := Lib.hid (And.intro (T8.out.1.call hb) (show W2.heap.size ≤ x9.heap.size from Nat.le_trans T8.out.2 hb.size))
        have N7_8_9 := Lib.hid (And.intro (N7_8.out.1.below hb) N7_8.out.2)
        have LB9 := Lib.hid (show x1.heap.size < x8.heap.size from N7_8.out.1.lt)
        refine hK.out _ _ (KS.out _ T9.out.1) (fun hHeld_9 => ?_)
        clear hK K hHeld_8 hb
        try simp only [Act.put, List.getElem_toArray, List.getElem_cons_zero, List.getElem_cons_succ, List.setIfInBounds_toArray, List.set_cons_zero, List.set_cons_succ]
        refine wpAnyK_take (i := 12) (v := ?_) rfl (by kernel_rfl) (fun _ _ _ h => h) (Or.inl ⟨by rfl, ?_⟩) (by assumption) ?_
        rotate_left
        · (intro w hSw; (try dsimp only at hSw); go_simp; try with_reducible rfl)
        try simp only [Act.put, List.getElem_toArray, List.getElem_cons_zero, List.getElem_cons_succ, List.setIfInBounds_toArray, List.set_cons_zero, List.set_cons_succ]
        refine wpAnyK_take (i := 13) (v := ?_) rfl (by kernel_rfl) (fun _ _ _ h => h) (Or.inl ⟨by rfl, ?_⟩) (by assumption) ?_
        rotate_left
        · (intro w hSw; (try dsimp only at hSw); go_simp; try with_reducible rfl)
        try simp only [Act.put, List.getElem_toArray, List.getElem_cons_zero, List.getElem_cons_succ, List.setIfInBounds_toArray, List.set_cons_zero, List.set_cons_succ]
        refine wpAnyK_take (i := 14) (v := ?_) rfl (by kernel_rfl) (fun _ _ _ h => h) (Or.inl ⟨by rfl, ?_⟩) (by assumption) ?_
        rotate_left
        · (intro w hSw; (try dsimp only at hSw); go_simp; try with_reducible rfl)
        try simp only [Act.put, List.getElem_toArray, List.getElem_cons_zero, List.getElem_cons_succ, List.setIfInBounds_toArray, List.set_cons_zero, List.set_cons_succ]
        have hN := N7_8_9.out
        have hT := T9.out
        have hQ : ∀ x, a5 = some x → 1 ≤ n5 → x.block ≠ x1.heap.size := fun x e _ => by have := (XX.out x e).2; have := LB9.out; omega
        have HX8 := Lib.hid (show Bx (((x9.setCell ⟨x1.heap.size, 0, none⟩ (.slice a5 n5 cap5)).setCell ⟨x1.heap.size, 1, none⟩ (.int .i64 p5)).setCell ⟨x1.heap.size, 2, none⟩ (.int .i64 inc5)) x1.heap.size a5 n5 cap5 p5 inc5 zs5 from ⟨hN.1.set _ _ _, ((RX.out.store hQ _ _).store hQ _ _).store hQ _ _⟩)
        have HA8 := HA2.out
        have HP8 := Lib.hid (show OG w A b1 m1 c1 y1 q1 j1 b2 m2 c2 y2 q2 j2 (((x9.setCell ⟨x1.heap.size, 0, none⟩ (.slice a5 n5 cap5)).setCell ⟨x1.heap.size, 1, none⟩ (.int .i64 p5)).setCell ⟨x1.heap.size, 2, none⟩ (.int .i64 inc5)) from hT.1.lay hs1 (by omega) (fun x e q => by have := FR.out.1 x e q; omega) (fun x e q => by have := FR.out.2 x e q; omega) _ _ _)
        have HQ8 := Lib.hid (show W2.heap.size ≤ x1.heap.size ∧ ∀ x, a5 = some x → 1 ≤ n5 → x.block ≠ x1.heap.size from ⟨by omega, hQ⟩)
        have F8 := Lib.hid (show ∀ x, a5 = some x → w.heap.size + 3 ≤ x.block from fun x e => by have := XX.out x e; omega)
        have hAB8 : A + 1 < x1.heap.size := by omega
        obtain ⟨n0, n1, n2, n3, n4, n5'⟩ := hN.1
        clear hN hT hQ HA8
        refine wpAnyK_step (i := 16) rfl (by kernel_rfl) (fun K hK => ?_)
        go_simp
        refine hK.out _ _ (KS.out _ HP8.out) (fun hHeld9 => ?_)
        clear hK K hHeld_9
        try simp only [Act.put, List.getElem_toArray, List.getElem_cons_zero, List.getElem_cons_succ, List.setIfInBounds_toArray, List.set_cons_zero, List.set_cons_succ]
        refine wpAnyK_done (by kernel_rfl) ?_
        simp only [List.drop_succ_cons, List.drop_zero]
        clear hHeld9
        go_wp2_with fail
        go_meet
        exact ⟨x1.heap.size, a5, n5, cap5, zs5, p5, inc5, ok5, rfl, rfl, hAB8, HP8, HX8, F8, I8, K8, HQ8⟩
    · go_simp
      obtain ⟨x10, hv10⟩ : ∃ W', (W2.alloc (.cells #[.slice none 0 0, .int .i64 0, .int .i64 0] 24)).drew = W' := ⟨_, rfl⟩
      have hu10 : W2.drew.alloc (.cells #[.slice none 0 0, .int .i64 0, .int .i64 0] 24) = x10 := hv10
      have hb10 : Below W2.drew.heap.size W2.drew x10 := by rw [← hu10]; exact below_box _
      have N10 := Lib.hid (show Cur3 x10 W2.heap.size (.slice none 0 0) (.int .i64 0) (.int .i64 0) ∧ W2.heap.size ≤ W2.heap.size from ⟨by rw [← hu10]; exact Cur3.new W2.drew _ _ _ _, Q0.out.2⟩)
      have T10 := Lib.hid (And.intro (Q0.out.1.call hb10) (show W2.heap.size ≤ x10.heap.size from Nat.le_trans Q0.out.2 hb10.size))
      rw [hv10]
      clear hu10 hv10
      refine hK.out _ _ (KS.out _ T10.out.1) (fun hHeld_10 => ?_)
      clear hK K hHeld0 hb10
      try simp only [Act.put, List.getElem_toArray, List.getElem_cons_zero, List.getElem_cons_succ, List.setIfInBounds_toArray, List.set_cons_zero, List.set_cons_succ]
      refine wpAnyK_step (i := 4) rfl (by kernel_rfl) (fun K hK => ?_)
      go_simp
      with_reducible refine (start7 b1 m1 c1 q1 j1 B1.out.1.1 B1.out.1.2 sa HSI.out.1 _).mono ?_
      rintro e x11 ⟨rfl, hb⟩
      have T11 := Lib.hid (And.intro (T10.out.1.call hb) (show W2.heap.size ≤ x11.heap.size from Nat.le_trans T10.out.2 hb.size))
      have N10_11 := Lib.hid (And.intro (N10.out.1.below hb) N10.out.2)
      refine hK.out _ _ (KS.out _ T11.out.1) (fun hHeld_11 => ?_)
      clear hK K hHeld_10 hb
      try simp only [Act.put, List.getElem_toArray, List.getElem_cons_zero, List.getElem_cons_succ, List.setIfInBounds_toArray, List.set_cons_zero, List.set_cons_succ]
      refine wpAnyK_step (i := 6) rfl (by kernel_rfl) (fun K hK => ?_)
      go_simp
      with_reducible refine (start7 b2 m2 c2 q2 j2 B1.out.2.1 B1.out.2.2 sb HSI.out.2 _).mono ?_
      rintro e x12 ⟨rfl, hb⟩
      have T12 := Lib.hid (And.intro (T11.out.1.call hb) (show W2.heap.size ≤ x12.heap.size from Nat.le_trans T11.out.2 hb.size))
      have N10_11_12 := Lib.hid (And.intro (N10_11.out.1.below hb) N10_11.out.2)
      refine hK.out _ _ (KS.out _ T12.out.1) (fun hHeld_12 => ?_)
      clear hK K hHeld_11 hb
      try simp only [Act.put, List.getElem_toArray, List.getElem_cons_zero, List.getElem_cons_succ, List.setIfInBounds_toArray, List.set_cons_zero, List.set_cons_succ]
      refine wpAnyK_take (i := 7) (v := ?_) rfl (by kernel_rfl) (fun _ _ _ h => h) (Or.inl ⟨by rfl, ?_⟩) (by assumption) ?_
      rotate_left
      · (intro w hSw; (try dsimp only at hSw); go_simp; try with_reducible rfl)
      try simp only [Act.put, List.getElem_toArray, List.getElem_cons_zero, List.getElem_cons_succ, List.setIfInBounds_toArray, List.set_cons_zero, List.set_cons_succ]
      refine wpAnyK_take (i := 10) (v := ?_) rfl (by kernel_rfl) (fun _ _ _ h => h) (Or.inl ⟨by rfl, ?_⟩) (by assumption) ?_
      rotate_left
      · (intro w hSw; (try dsimp only at hSw); go_simp; try with_reducible rfl)
      try simp only [Act.put, List.getElem_toArray, List.getElem_cons_zero, List.getElem_cons_succ, List.setIfInBounds_toArray, List.set_cons_zero, List.set_cons_succ]
      refine wpAnyK_step (i := 11) rfl (by kernel_rfl) (fun K hK => ?_)
      go_simp
      with_reducible refine (guess7 b1 m1 c1 y1 q1 j1 GY.out.1 b2 m2 c2 y2 q2 j2 GY.out.2 L HM.out hL120 fr HFR.out.1.1 HFR.out.1.2 _ T12.out.1.xa.row T12.out.1.xb.row).mono ?_
      rintro e x13 ⟨a5, n5, cap5, zs5, p5, inc5, ok5, rfl, hb, hr, h64, hs, _, hx⟩
      have RX := Lib.hid hr
      have I8 := Lib.hid h64
      have K8 := Lib.hid hs
      have XX := Lib.hid (show ∀ x, a5 = some x → W2.heap.size ≤ x.block ∧ x12.heap.size ≤ x.block from fun x e => by have := hx x e; have := T12.out.2; omega)
      clear hr h64 hs hx
      have T13 := Lib.hid (And.intro (T12.out.1.call hb) (show W2.heap.size ≤ x13.heap.size from Nat.le_trans T12.out.2 hb.size))
      have N10_11_12_13 := Lib.hid (And.intro (N10_11_12.out.1.below hb) N10_11_12.out.2)
      have LB13 := Lib.hid (show W2.heap.size < x12.heap.size from N10_11_12.out.1.lt)
      refine hK.out _ _ (KS.out _ T13.out.1) (fun hHeld_13 => ?_)
      clear hK K hHeld_12 hb
      try simp only [Act.put, List.getElem_toArray, List.getElem_cons_zero, List.getElem_cons_succ, List.setIfInBounds_toArray, List.set_cons_zero, List.set_cons_succ]
      refine wpAnyK_take (i := 12) (v := ?_) rfl (by kernel_rfl) (fun _ _ _ h => h) (Or.inl ⟨by rfl, ?_⟩) (by assumption) ?_
      rotate_left
      · (intro w hSw; (try dsimp only at hSw); go_simp; try with_reducible rfl)
      try simp only [Act.put, List.getElem_toArray, List.getElem_cons_zero, List.getElem_cons_succ, List.setIfInBounds_toArray, List.set_cons_zero, List.set_cons_succ]
      refine wpAnyK_take (i := 13) (v := ?_) rfl (by kernel_rfl) (fun _ _ _ h => h) (Or.inl ⟨by rfl, ?_⟩) (by assumption) ?_
      rotate_left
      · (intro w hSw; (try dsimp only at hSw); go_simp; try with_reducible rfl)
      try simp only [Act.put, List.getElem_toArray, List.getElem_cons_zero, List.getElem_cons_succ, List.setIfInBounds_toArray, List.set_cons_zero, List.set_cons_succ]
      refine wpAnyK_take (i := 14) (v := ?_) rfl (by kernel_rfl) (fun _ _ _ h => h) (Or.inl ⟨by rfl, ?_⟩) (by assumption) ?_
      rotate_left
      · (intro w hSw; (try dsimp only at hSw); go_simp; try with_reducible rfl)
      try simp only [Act.put, List.getElem_toArray, List.getElem_cons_zero, List.getElem_cons_succ, List.setIfInBounds_toArray, List.set_cons_zero, List.set_cons_succ]
      have hN := N10_11_12_13.out
      have hT := T13.out
      have hQ : ∀ x, a5 = some x → 1 ≤ n5 → x.block ≠ W2.heap.size := fun x e _ => by have := (XX.out x e).2; have := LB13.out; omega
      have HX8 := Lib.hid (show Bx (((x13.setCell ⟨W2.heap.size, 0, none⟩ (.slice a5 n5 cap5)).setCell ⟨W2.heap.size, 1, none⟩ (.int .i64 p5)).setCell ⟨W2.heap.size, 2, none⟩ (.int .i64 inc5)) W2.heap.size a5 n5 cap5 p5 inc5 zs5 from ⟨hN.1.set _ _ _, ((RX.out.store hQ _ _).store hQ _ _).store hQ _ _⟩)
      have HA8 := HA2.out
      have HP8 := Lib.hid (show OG w A b1 m1 c1 y1 q1 j1 b2 m2 c2 y2 q2 j2 (((x13.setCell ⟨W2.heap.size, 0, none⟩ (.slice a5 n5 cap5)).setCell ⟨W2.heap.size, 1, none⟩ (.int .i64 p5)).setCell ⟨W2.heap.size, 2, none⟩ (.int .i64 inc5)) from hT.1.lay hs1 (by omega) (fun x e q => by have := FR.out.1 x e q; omega) (fun x e q => by have := FR.out.2 x e q; omega) _ _ _)
      have HQ8 := Lib.hid (show W2.heap.size ≤ W2.heap.size ∧ ∀ x, a5 = some x → 1 ≤ n5 → x.block ≠ W2.heap.size from ⟨by omega, hQ⟩)
      have F8 := Lib.hid (show ∀ x, a5 = some x → w.heap.size + 3 ≤ x.block from fun x e => by have := XX.out x e; omega)
      have hAB8 : A + 1 < W2.heap.size := by omega
      obtain ⟨n0, n1, n2, n3, n4, n5'⟩ := hN.1
      clear hN hT hQ HA8
      refine wpAnyK_step (i := 16) rfl (by kernel_rfl) (fun K hK => ?_)
      go_simp
      refine hK.out _ _ (KS.out _ HP8.out) (fun hHeld9 => ?_)
      clear hK K hHeld_13
      try simp only [Act.put, List.getElem_toArray, List.getElem_cons_zero, List.getElem_cons_succ, List.setIfInBounds_toArray, List.set_cons_zero, List.set_cons_succ]
      refine wpAnyK_done (by kernel_rfl) ?_
      simp only [List.drop_succ_cons, List.drop_zero]
      clear hHeld9
      go_wp2_with fail
      go_meet
      exact ⟨W2.heap.size, a5, n5, cap5, zs5, p5, inc5, ok5, rfl, rfl, hAB8, HP8, HX8, F8, I8, K8, HQ8⟩
  case rest =>
  obtain ⟨B, a5, n5, cap5, zs5, p5, inc5, ok, rfl, rfl, hAB, G5, X5, F5, I5, K5, BB⟩ := hcut
  obtain ⟨w5, rfl⟩ : ∃ u : World, u = wc := ⟨_, rfl⟩
  clear Q0 OG0
  cases ok with
  | true =>
    obtain ⟨c0, c1', c2', c3', c4, c5⟩ := X5.out.box
    cases hv : okC zs5 p5 inc5 with
    | false =>
      have HV := Lib.hid hv
      clear hv
      go_wp2_with fail
      refine (rvalid_any a5 n5 cap5 zs5 p5 inc5 I5.out.1 I5.out.2 false HV.out _ X5.out.row).mono ?_
      rintro e w7 ⟨rfl, hb⟩
      have hno : ¬ ECan (eConv y1 q1 j1 y2 q2 j2) := (K5.out trivial).2 fun g => by have := (okC_iff zs5 p5 inc5).2 g; rw [HV.out] at this; cases this
      have HP := Lib.hid (GivesE.postNo (E := eConv z1 p1 i1 z2 p2 i2) (b := w.heap.size + 2) G5.out.below (by omega) hb (by rw [← HEE.out]; exact hno))
      obtain ⟨r0, r1, r2, r3, r4, r5⟩ := G5.out.res.below hb
      clear hb hno
      go_wp2_with fail
      exact bodyPost_ret (v := .tuple #[curV none 0 0 0 0, .int .i64 3]) (by simp [results, Try.results36, go_sem, r0, r1, r2]) rfl HP.out
    | true =>
      have HV := Lib.hid hv
      clear hv
      go_wp2_with fail
      refine (rvalid_any a5 n5 cap5 zs5 p5 inc5 I5.out.1 I5.out.2 true HV.out _ X5.out.row).mono ?_
      rintro e w7 ⟨rfl, hb⟩
      have hf := (K5.out trivial).1 ((okC_iff zs5 p5 inc5).1 HV.out)
      have G7 := Lib.hid (G5.out.call hb)
      have X7 := Lib.hid (X5.out.under hb)
      have HP := Lib.hid (GivesE.postOf (E := eConv z1 p1 i1 z2 p2 i2) (b := w.heap.size + 2) G7.out.below (by omega) X7.out.row (fun x e => by have := F5.out x e; omega) (by rw [← HEE.out]; exact hf))
      obtain ⟨r0, r1, r2, r3, r4, r5⟩ := G7.out.res
      clear c0 c1' c2' c3' c4 c5 hb hf
      obtain ⟨c0, c1', c2', c3', c4, c5⟩ := X7.out.box
      go_wp2_with fail
      exact bodyPost_ret (v := .tuple #[curV a5 n5 cap5 p5 inc5, .int .i64 0]) (by simp [results, Try.results36, go_sem, r0, r1, r2]) rfl HP.out
  | false =>
    obtain ⟨c0, c1', c2', c3', c4, c5⟩ := X5.out.box
    obtain ⟨g0, g1', g2', g3', g4, g5⟩ := G5.out.xa.box
    obtain ⟨d0, d1, d2, d3, d4, d5⟩ := G5.out.xb.box
    go_upto_region 6 with fail
    go_wp2_with fail
    clear c0 c1' c2' c3' c4 c5 g0 g1' g2' g3' g4 g5 d0 d1 d2 d3 d4 d5
    with_reducible refine (guess7 b1 m1 c1 y1 q1 j1 GY.out.1 b2 m2 c2 y2 q2 j2 GY.out.2 L HM.out hL120 f2 HFR.out.2.1 HFR.out.2.2 _ G5.out.xa.row G5.out.xb.row).mono ?_
    rintro e v6 ⟨a6, n6, cap6, zs6, p6, inc6, ok6, rfl, hb, hr, h64, hs, hc, hx⟩
    obtain ⟨w6, hw6⟩ : ∃ u, ((v6.setCell ⟨B, 0, none⟩ (.slice a6 n6 cap6)).setCell ⟨B, 1, none⟩ (.int .i64 p6)).setCell ⟨B, 2, none⟩ (.int .i64 inc6) = u := ⟨_, rfl⟩
    have hBw : B < w5.heap.size := X5.out.box.lt
    have hq6 : ∀ x, a6 = some x → x.block ≠ B := fun x e => by have := hx x e; omega
    have hFR := FR.out
    have G6 := Lib.hid (show OG w A b1 m1 c1 y1 q1 j1 b2 m2 c2 y2 q2 j2 w6 by rw [← hw6]; exact (G5.out.call hb).lay hs1 hAB (fun x e q => by have := hFR.1 x e q; have := BB.out.1; omega) (fun x e q => by have := hFR.2 x e q; have := BB.out.1; omega) _ _ _)
    have X6 := Lib.hid (show Bx w6 B a6 n6 cap6 p6 inc6 zs6 by rw [← hw6]; exact ⟨(X5.out.box.below hb).set _ _ _, ((hr.store (fun x e _ => hq6 x e) _ _).store (fun x e _ => hq6 x e) _ _).store (fun x e _ => hq6 x e) _ _⟩)
    have F6 := Lib.hid (show ∀ x, a6 = some x → w.heap.size + 3 ≤ x.block from fun x e => by have := hx x e; have := HA2.out; have := BB.out.1; omega)
    have I6 := Lib.hid h64
    have K6 := Lib.hid (And.intro hs (hc HF2.out))
    have X5b := Lib.hid (X5.out.box.below hb)
    have HW6 := Lib.hid hw6
    obtain ⟨c0, c1', c2', c3', c4, c5⟩ := X5b.out
    clear hb hr h64 hs hc hx hw6 hq6 hFR
    go_upto_region 7 with fail
    try rw [HW6.out]
    clear c0 c1' c2' c3' c4 c5
    obtain ⟨c0, c1', c2', c3', c4, c5⟩ := X6.out.box
    cases ok6 with
    | true =>
      cases hv : okC zs6 p6 inc6 with
      | false =>
        have HV := Lib.hid hv
        clear hv
        go_wp2_with fail
        refine (rvalid_any a6 n6 cap6 zs6 p6 inc6 I6.out.1 I6.out.2 false HV.out _ X6.out.row).mono ?_
        rintro e w7 ⟨rfl, hb⟩
        have hno : ¬ ECan (eConv y1 q1 j1 y2 q2 j2) := (K6.out.1 trivial).2 fun g => by have := (okC_iff zs6 p6 inc6).2 g; rw [HV.out] at this; cases this
        have HP := Lib.hid (GivesE.postNo (E := eConv z1 p1 i1 z2 p2 i2) (b := w.heap.size + 2) G6.out.below (by omega) hb (by rw [← HEE.out]; exact hno))
        obtain ⟨r0, r1, r2, r3, r4, r5⟩ := G6.out.res.below hb
        clear hb hno
        go_wp2_with fail
        exact bodyPost_ret (v := .tuple #[curV none 0 0 0 0, .int .i64 3]) (by simp [results, Try.results36, go_sem, r0, r1, r2]) rfl HP.out
      | true =>
        have HV := Lib.hid hv
        clear hv
        go_wp2_with fail
        refine (rvalid_any a6 n6 cap6 zs6 p6 inc6 I6.out.1 I6.out.2 true HV.out _ X6.out.row).mono ?_
        rintro e w7 ⟨rfl, hb⟩
        have hf := (K6.out.1 trivial).1 ((okC_iff zs6 p6 inc6).1 HV.out)
        have G7 := Lib.hid (G6.out.call hb)
        have X7 := Lib.hid (X6.out.under hb)
        have HP := Lib.hid (GivesE.postOf (E := eConv z1 p1 i1 z2 p2 i2) (b := w.heap.size + 2) G7.out.below (by omega) X7.out.row (fun x e => by have := F6.out x e; omega) (by rw [← HEE.out]; exact hf))
        obtain ⟨r0, r1, r2, r3, r4, r5⟩ := G7.out.res
        clear c0 c1' c2' c3' c4 c5 hb hf
        obtain ⟨c0, c1', c2', c3', c4, c5⟩ := X7.out.box
        go_wp2_with fail
        exact bodyPost_ret (v := .tuple #[curV a6 n6 cap6 p6 inc6, .int .i64 0]) (by simp [results, Try.results36, go_sem, r0, r1, r2]) rfl HP.out
    | false =>
      have hno : ¬ ECan (eConv y1 q1 j1 y2 q2 j2) := fun h => by have := K6.out.2 h; cases this
      have HP := Lib.hid (GivesE.postNo (E := eConv z1 p1 i1 z2 p2 i2) (b := w.heap.size + 2) G6.out.below (by omega) (Below.refl _ _) (by rw [← HEE.out]; exact hno))
      obtain ⟨r0, r1, r2, r3, r4, r5⟩ := G6.out.res
      clear hno
      go_wp2_with fail
      exact bodyPost_ret (v := .tuple #[curV none 0 0 0 0, .int .i64 3]) (by simp [results, Try.results36, go_sem, r0, r1, r2]) rfl HP.out

section
variable (a1 : Option Addr) (n1 cap1 : Nat) (z1 : List Int) (p1 : Nat) (i1 : Int) (g1 : Good z1 p1 i1) (a2 : Option Addr) (n2 cap2 : Nat) (z2 : List Int) (p2 : Nat) (i2 : Int) (g2 : Good z2 p2 i2) (h1 : Day (eC z1 p1 i1)) (h2 : Day (eC z2 p2 i2))
    (w : World) (r1 : RowZ w a1 n1 cap1 z1) (r2 : RowZ w a2 n2 cap2 z2)
include g1 g2 h1 h2 r1 r2
theorem rof7_day : Calls Try.prog 36 #[curV a1 n1 cap1 p1 i1, curV a2 n2 cap2 p2 i2] w (GivesE (eConv z1 p1 i1 z2 p2 i2) w) := by
  obtain ⟨L, hL, hl⟩ := lcm_day g1 g2 h1 h2
  exact rof7 a1 n1 cap1 z1 p1 i1 g1 a2 n2 cap2 z2 p2 i2 g2 L hl hL w r1 r2
end

end Go.Proofs.Ytcbocglakielnaa
