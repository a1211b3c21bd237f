/- The document's Rest. By the verifier's side. -/
import Derived.Test.YtjipmkgnndldpaaHRRe1
import Derived.Test.YtjipmkgnndldpaaHRemR
import Derived.Test.YtjipmkgnndldpaaHRBad
import Derived.Test.YtjipmkgnndldpaaHConER
namespace Go.Proofs.Ytjipmkgnndldpaa
open Go.RowKit
set_option linter.unusedSimpArgs false
set_option linter.unusedVariables false

theorem firsts_take6 (f : Nat → Int) {a b : Nat} (h : a ≤ b) : (firsts f b).take a = firsts f a :=
  list_ext_getD (by rw [firsts_length, List.length_take, firsts_length]; omega) fun i hi => by
    rw [List.length_take, firsts_length] at hi
    rw [getD_take (by omega), firsts_getD _ _ _ (by omega), firsts_getD _ _ _ (by omega)]
theorem RowZ.cell_lt6 {w : World} {g n cap : Nat} {zs : List Int} (h : RowZ w (some ⟨g, 0, none⟩) n cap zs) (h1 : 1 ≤ n) : g < w.heap.size := by
  obtain ⟨x, hx, hc⟩ := h.at 0 (by omega)
  cases hx
  have := lt_of_cell hc
  simpa [Addr.add] using this
theorem cell_at6 {w : World} {g n cap : Nat} {zs : List Int} (h : RowZ w (some ⟨g, 0, none⟩) n cap zs) {i : Nat} (hi : i < n) : w.cell? ⟨g, i, none⟩ = some (.int .i64 (zs.getD i 0)) := by
  obtain ⟨x, hx, hc⟩ := h.cell i hi
  cases hx
  rw [WideShapes.add_plain] at hc
  simpa using hc
/-- The greatest value so far, of k values. -/
def bestR (f : Nat → Int) : Nat → Int
  | 0 => 0
  | k + 1 => f k
theorem bestR_step {zs ys : List Int} {p q : Nat} {inc jnc : Int} (g : Good zs p inc) (h : Good ys q jnc) {k : Nat} (hk : k ≤ 1000) :
    encF (eRest zs p inc ys q jnc) k = max (bestR (encF (eRest zs p inc ys q jnc)) k) (encF (eDif zs p inc ys q jnc) k) := by
  cases k with
  | zero =>
    show encF (eDif zs p inc ys q jnc) 0 = max 0 (encF (eDif zs p inc ys q jnc) 0)
    cases e : eDif zs p inc ys q jnc 0 with
    | none => rw [encF_none e]; unfold infV; omega
    | some x => rw [encF_some e]; have := eDif_nn e; omega
  | succ j => exact enc_rest g h hk

/-- While Rest lists its values: there are k; two curves' boxes stand at A and A + 1. -/
structure Ra (W : World) (A : Nat) (f : Nat → Int) (k : Nat) (sv : Value) (u : World) : Prop where
  below : Below W.heap.size W u
  own : u.ownsRow (A + 2) 3 1 sv k ((firsts f k).map (Value.int .i64))
  lt : A + 2 ≤ u.heap.size
section
variable {W u v : World} {A : Nat} {f : Nat → Int} {k : Nat} {sv : Value}
theorem Ra.start (W : World) (A : Nat) (f : Nat → Int) (h : W.heap.size = A + 2) : Ra W A f 0 (.slice none 0 0) W := ⟨Below.refl _ _, World.ownsRow_nil _ _ _ _, by omega⟩
theorem Ra.call (h : Ra W A f k sv u) (hb : Below u.heap.size u v) : Ra W A f k sv v :=
  ⟨h.below.trans (hb.mono h.below.size), owns_apart h.own (below_apart (b := A) hb) (by omega), Nat.le_trans h.lt hb.size⟩
theorem Ra.push {v' : Value} (h : Ra W A f k sv u) (hA : W.heap.size = A + 2) {z : Int} (hown : v.ownsRow (A + 2) 3 1 v' (k + 1) ((firsts f k).map (Value.int .i64) ++ [Value.int .i64 z])) (hg : u.grownBy v sv.ownBlock) (hz : f k = z) : Ra W A f (k + 1) v' v := by
  have hrow : ∀ j, sv.ownBlock = some j → A + 2 ≤ j := fun j hj => (h.own.lt j hj).1
  refine ⟨h.below.grown hg h.below.size (fun j hj => by have := hrow j hj; omega), ?_, Nat.le_trans h.lt hg.size⟩
  rw [firsts_succ, List.map_append, hz]; exact hown
theorem Ra.row (h : Ra W A f k sv u) (h1 : 1 ≤ k) (hk : k ≤ 100000) (hb : ∀ t, t < k → In64 (f t)) : ∃ g c, sv = .slice (some ⟨g, 0, none⟩) k c ∧ RowZ u (some ⟨g, 0, none⟩) k c (firsts f k) ∧ A + 2 ≤ g := by
  obtain ⟨g, c, rfl, hg, hg'⟩ := h.own.form (by omega)
  obtain ⟨a9, c9, hv9, R9, X9⟩ := rowZ_of_owns h.own (by omega) (fun i hi => by rw [firsts_length] at hi; rw [firsts_getD _ _ _ hi]; exact hb i hi)
  cases hv9
  exact ⟨g, c, rfl, R9, X9 _ rfl⟩
end

set_option maxRecDepth 100000 in
set_option maxHeartbeats 3200000 in
theorem rrest_lim (a1 : Option Addr) (n1 cap1 : Nat) (z1 : List Int) (p1 : Nat) (i1 : Int) (g1 : Good z1 p1 i1) (a2 : Option Addr) (n2 cap2 : Nat) (z2 : List Int) (p2 : Nat) (i2 : Int) (g2 : Good z2 p2 i2) (L : Nat) (hL : LcmN z1 p1 i1 z2 p2 i2 L) (hL2 : 120 < L) (w : World) (h1 : RowZ w a1 n1 cap1 z1) (h2 : RowZ w a2 n2 cap2 z2) :
    Calls Try.prog 53 #[curV a1 n1 cap1 p1 i1, curV a2 n2 cap2 p2 i2] w (GivesBad 3 w) := by
  have HG := Lib.hid (And.intro g1 g2)
  have HL := Lib.hid (And.intro hL hL2)
  obtain ⟨W, hW⟩ : ∃ W, ((w.alloc (.cells #[.slice a1 n1 cap1, .int .i64 p1, .int .i64 i1] 38)).alloc (.cells #[.slice a2 n2 cap2, .int .i64 p2, .int .i64 i2] 38)).alloc (.cells #[.slice none 0 0, .int .i64 0, .int .i64 0] 38) = W := ⟨_, rfl⟩
  obtain ⟨⟨hB, hWs⟩, k1, k2, kr⟩ := boxesB w a1 n1 cap1 p1 i1 a2 n2 cap2 p2 i2 hW
  have HB := Lib.hid hB
  have KR := Lib.hid kr
  have HR := Lib.hid (And.intro (h1.under hB) (h2.under hB))
  have HWS := Lib.hid hWs
  have hW1 := hW
  obtain ⟨m0, m1, m2, m3, m4, m5⟩ := k1
  obtain ⟨u0, u1, u2, u3, u4, u5⟩ := k2
  clear h1 h2 hB kr hW hWs g1 g2 hL hL2
  go_enter Try.func53, Try.ntmps53
  go_wp2_with fail
  try rw [hW1]
  clear hW1 m0 m1 m2 m3 m4 m5 u0 u1 u2 u3 u4 u5
  refine (rpair_any a1 n1 cap1 z1 p1 i1 HG.out.1 a2 n2 cap2 z2 p2 i2 HG.out.2 L HL.out.1 0 3 (if_pos HL.out.2).symm (if_pos HL.out.2).symm _ HR.out.1 HR.out.2).mono ?_
  rintro e v1 ⟨b1, m1, c1, y1, q1, j1, b2, m2, c2, y2, q2, j2, rfl, hb, hr1, hr2, hn1, hn2, hx1, hx2⟩
  obtain ⟨W2, hw⟩ : ∃ W2, (v1.alloc (.cells #[.slice b1 m1 c1, .int .i64 q1, .int .i64 j1] 38)).alloc (.cells #[.slice b2 m2 c2, .int .i64 q2, .int .i64 j2] 38) = W2 := ⟨_, rfl⟩
  have hWz : Below W.heap.size W W2 := by rw [← hw]; exact (hb.alloc hb.size _).alloc (by have := hb.size; simp; omega) _
  have HP := Lib.hid (GivesBad.post (b := w.heap.size + 2) HB.out (by omega) hWz 3)
  obtain ⟨r0, r1, r2, r3, r4, r5⟩ := KR.out.below hWz
  clear hWz
  clear hb hr1 hr2 hn1 hn2 hx1 hx2
  go_wp2_with fail
  try rw [hw]
  exact bodyPost_ret (v := .tuple #[curV none 0 0 0 0, .int .i64 3]) (by simp [results, Try.results53, go_sem, r0, r1, r2]) rfl HP.out

set_option maxRecDepth 100000 in
set_option maxHeartbeats 6400000 in
theorem rrest_ok (a1 : Option Addr) (n1 cap1 : Nat) (z1 : List Int) (p1 : Nat) (i1 : Int) (g1 : Good z1 p1 i1) (a2 : Option Addr) (n2 cap2 : Nat) (z2 : List Int) (p2 : Nat) (i2 : Int) (g2 : Good z2 p2 i2) (L : Nat) (hL : LcmN z1 p1 i1 z2 p2 i2 L) (hL2 : L ≤ 120) (w : World) (h1 : RowZ w a1 n1 cap1 z1) (h2 : RowZ w a2 n2 cap2 z2) :
    Calls Try.prog 53 #[curV a1 n1 cap1 p1 i1, curV a2 n2 cap2 p2 i2] w (GivesE (eRest z1 p1 i1 z2 p2 i2) w) := by
  obtain ⟨ii0, ihi, ihz0, ihz1, ihz2⟩ := info_parts info_int
  have HG := Lib.hid (And.intro g1 g2)
  have HL := Lib.hid (And.intro hL hL2)
  obtain ⟨W, hW⟩ : ∃ W, ((w.alloc (.cells #[.slice a1 n1 cap1, .int .i64 p1, .int .i64 i1] 38)).alloc (.cells #[.slice a2 n2 cap2, .int .i64 p2, .int .i64 i2] 38)).alloc (.cells #[.slice none 0 0, .int .i64 0, .int .i64 0] 38) = W := ⟨_, rfl⟩
  obtain ⟨⟨hB, hWs⟩, k1, k2, kr⟩ := boxesB w a1 n1 cap1 p1 i1 a2 n2 cap2 p2 i2 hW
  have HB := Lib.hid hB
  have KR := Lib.hid kr
  have HR := Lib.hid (And.intro (h1.under hB) (h2.under hB))
  have HWS := Lib.hid hWs
  have hW1 := hW
  obtain ⟨m0, m1, m2, m3, m4, m5⟩ := k1
  obtain ⟨u0, u1, u2, u3, u4, u5⟩ := k2
  clear h1 h2 hB kr hW hWs g1 g2 hL hL2
  go_enter Try.func53, Try.ntmps53
  go_wp2_with fail
  try rw [hW1]
  clear hW1 m0 m1 m2 m3 m4 m5 u0 u1 u2 u3 u4 u5
  have hn120 : ¬ 120 < L := by have := HL.out.2; omega
  refine (rpair_any a1 n1 cap1 z1 p1 i1 HG.out.1 a2 n2 cap2 z2 p2 i2 HG.out.2 L HL.out.1 L 0 (if_neg hn120).symm (if_neg hn120).symm _ HR.out.1 HR.out.2).mono ?_
  rintro e v1 ⟨b1, m1, c1, y1, q1, j1, b2, m2, c2, y2, q2, j2, rfl, hb, hr1, hr2, hn1, hn2, hx1, hx2⟩
  obtain ⟨W2, hw⟩ : ∃ W2, (v1.alloc (.cells #[.slice b1 m1 c1, .int .i64 q1, .int .i64 j1] 38)).alloc (.cells #[.slice b2 m2 c2, .int .i64 q2, .int .i64 j2] 38) = W2 := ⟨_, rfl⟩
  have hz : Below v1.heap.size v1 W2 := by rw [← hw]; exact ((Below.refl _ _).alloc (Nat.le_refl _) _).alloc (by simp) _
  have hWz : Below W.heap.size W W2 := hb.trans (hz.mono hb.size)
  have KR2 := Lib.hid (KR.out.below hWz)
  have HB2 := Lib.hid (HB.out.trans (hWz.mono HB.out.size))
  have XA := Lib.hid (show Bx W2 v1.heap.size b1 m1 c1 q1 j1 y1 by rw [← hw]; exact (Bx.new hr1).under (box_below _ _))
  have XB := Lib.hid (show Bx W2 (v1.heap.size + 1) b2 m2 c2 q2 j2 y2 by
    rw [← hw]
    have := Bx.new (p := q2) (inc := j2) (hr2.under (box_below v1 (.cells #[.slice b1 m1 c1, .int .i64 q1, .int .i64 j1] 38)))
    simpa using this)
  have GY := Lib.hid (And.intro (hn1.good HG.out.1) (hn2.good HG.out.2))
  have HN := Lib.hid (And.intro hn1 hn2)
  have hLL : q1 / Nat.gcd q1 q2 * q2 = L := by
    obtain ⟨u1, r1, k1, u2, r2, k2, n1, n2, e⟩ := HL.out.1
    obtain ⟨_, rfl, _⟩ := n1.canon HG.out.1 HG.out.1 hn1 (fun _ => rfl)
    obtain ⟨_, rfl, _⟩ := n2.canon HG.out.2 HG.out.2 hn2 (fun _ => rfl)
    exact e
  have HLC := Lib.hid (lcm_of GY.out.1.p1 GY.out.2.p1 hLL)
  have hs1 : w.heap.size + 3 ≤ v1.heap.size := by have := hb.size; have := HWS.out; omega
  have HWA := Lib.hid (show W2.heap.size = v1.heap.size + 2 by rw [← hw]; simp)
  have HEQ := Lib.hid (And.intro (hn1.eform HG.out.1).2.1 (hn2.eform HG.out.2).2.1)
  have hw1 := hw
  obtain ⟨A, hA⟩ : ∃ A, v1.heap.size = A := ⟨_, rfl⟩
  rw [hA] at XA XB hs1 HWA
  obtain ⟨g0, g1, g2, g3, g4, g5⟩ := XA.out.box
  obtain ⟨d0, d1, d2, d3, d4, d5⟩ := XB.out.box
  have hL1 := HLC.out.one
  have hL120 := HL.out.2
  have q11 := GY.out.1.p1
  have q12 := GY.out.1.p2
  have q21 := GY.out.2.p1
  have q22 := GY.out.2.p2
  have bj1 := GY.out.1.i0
  have bj1' := GY.out.1.i1
  have bj2 := GY.out.2.i0
  have bj2' := GY.out.2.i1
  clear hb hr1 hr2 hn1 hn2 hx1 hx2 hw hz hWz hLL hn120
  obtain ⟨k1, hk1⟩ : ∃ k, L / q1 = k := ⟨_, rfl⟩
  have hk1b : k1 ≤ 120 := by rw [← hk1]; exact Nat.le_trans (Nat.div_le_self _ _) hL120
  have hkq1 : (L : Int).tdiv (q1 : Int) = (k1 : Int) := by rw [Int.tdiv_eq_ediv_of_nonneg (by omega), ← hk1]; exact Int.natCast_ediv _ _
  have hkz1 : ¬ (q1 : Int) = 0 := by omega
  have hkn1 : ¬ q1 = 0 := by omega
  have hkd1 : (L : Int) / (q1 : Int) = (k1 : Int) := by rw [← hk1]; exact (Int.natCast_ediv _ _).symm
  obtain ⟨x1, hx1⟩ : ∃ x, j1 * (k1 : Int) = x := ⟨_, rfl⟩
  have hxb1 : 0 ≤ x1 ∧ x1 ≤ 128849018880 := by
    rw [← hx1]
    have h := Int.mul_le_mul bj1' (show (k1 : Int) ≤ 120 by omega) (by omega) (by omega)
    exact ⟨Int.mul_nonneg bj1 (by omega), by omega⟩
  obtain ⟨hxl1, hxu1⟩ := hxb1
  have hxw1 : IntKind.i64.wrap (j1 * (k1 : Int)) = x1 := by rw [hx1]; exact IntWalk.i64_in _ ⟨by omega, by omega⟩
  have hxx1 : IntKind.i64.wrap x1 = x1 := IntWalk.i64_in _ ⟨by omega, by omega⟩
  have hkw1 : IntKind.i64.wrap (k1 : Int) = (k1 : Int) := IntWalk.i64_in _ ⟨by omega, by omega⟩
  have HK1 := Lib.hid (And.intro hk1 hx1)
  obtain ⟨k2, hk2⟩ : ∃ k, L / q2 = k := ⟨_, rfl⟩
  have hk2b : k2 ≤ 120 := by rw [← hk2]; exact Nat.le_trans (Nat.div_le_self _ _) hL120
  have hkq2 : (L : Int).tdiv (q2 : Int) = (k2 : Int) := by rw [Int.tdiv_eq_ediv_of_nonneg (by omega), ← hk2]; exact Int.natCast_ediv _ _
  have hkz2 : ¬ (q2 : Int) = 0 := by omega
  have hkn2 : ¬ q2 = 0 := by omega
  have hkd2 : (L : Int) / (q2 : Int) = (k2 : Int) := by rw [← hk2]; exact (Int.natCast_ediv _ _).symm
  obtain ⟨x2, hx2⟩ : ∃ x, j2 * (k2 : Int) = x := ⟨_, rfl⟩
  have hxb2 : 0 ≤ x2 ∧ x2 ≤ 128849018880 := by
    rw [← hx2]
    have h := Int.mul_le_mul bj2' (show (k2 : Int) ≤ 120 by omega) (by omega) (by omega)
    exact ⟨Int.mul_nonneg bj2 (by omega), by omega⟩
  obtain ⟨hxl2, hxu2⟩ := hxb2
  have hxw2 : IntKind.i64.wrap (j2 * (k2 : Int)) = x2 := by rw [hx2]; exact IntWalk.i64_in _ ⟨by omega, by omega⟩
  have hxx2 : IntKind.i64.wrap x2 = x2 := IntWalk.i64_in _ ⟨by omega, by omega⟩
  have hkw2 : IntKind.i64.wrap (k2 : Int) = (k2 : Int) := IntWalk.i64_in _ ⟨by omega, by omega⟩
  have HK2 := Lib.hid (And.intro hk2 hx2)
  have hxs : IntKind.i64.wrap (x1 + x2) = x1 + x2 := IntWalk.i64_in _ ⟨by omega, by omega⟩
  have XQ1 := And.intro (And.intro hkq1 (And.intro hkz1 (And.intro hkn1 hkd1))) (And.intro hxw1 (And.intro hxx1 hkw1))
  have XQ2 := And.intro (And.intro hkq2 (And.intro hkz2 (And.intro hkn2 hkd2))) (And.intro hxw2 (And.intro hxx2 hkw2))
  have HXB := Lib.hid (And.intro (And.intro hxl1 hxu1) (And.intro hxl2 hxu2))
  obtain ⟨f, hf⟩ : ∃ f, encF (eRest y1 q1 j1 y2 q2 j2) = f := ⟨_, rfl⟩
  have HF := Lib.hid hf
  have HEE := Lib.hid (show eRest y1 q1 j1 y2 q2 j2 = eRest z1 p1 i1 z2 p2 i2 from by
    have hd : eDif y1 q1 j1 y2 q2 j2 = eDif z1 p1 i1 z2 p2 i2 := funext fun t => by unfold eDif; rw [HEQ.out.1 t, HEQ.out.2 t]
    unfold eRest
    rw [hd])
  obtain ⟨M, hM⟩ : ∃ M : Nat, 400 + (L : Int) = (M : Int) := ⟨400 + L, by omega⟩
  have hMn : M = 400 + L := by omega
  have hMw : IntKind.i64.wrap (M : Int) = (M : Int) := IntWalk.i64_in _ ⟨by omega, by omega⟩
  have HMn := Lib.hid hMn
  have HMI := Lib.hid hM
  have HMB := Lib.hid (show 401 ≤ M ∧ M ≤ 520 by omega)
  have HIN := Lib.hid (show ∀ t, t ≤ 1000 → In64 (f t) from fun t ht => by
    have h := (rest_mid GY.out.1 GY.out.2 ht).bd
    rw [HF.out] at h
    exact ⟨by omega, by omega⟩)
  clear hf hMn g0 g1 g2 g3 g4 g5 d0 d1 d2 d3 d4 d5 hxl1 hxu1 hxl2 hxu2 hxw1 hxw2 hxx1 hxx2 hkw1 hkw2 hkq1 hkq2 hkz1 hkz2 hkn1 hkn2 hkd1 hkd2 hxs
  have HKQ := Lib.hid (And.intro XQ1 XQ2)
  clear XQ1 XQ2
  go_upto_region 4 with fail
  try rw [hw1]
  clear hw1
  have hWA : W2.heap.size = A + 2 := HWA.out
  have L0 := Lib.hid (Ra.start W2 A f hWA)
  have BX := Lib.hid (And.intro XA.out XB.out)
  go_wp2_with fail
  go_loopw [10, 11, 12] (fun s10 s11 s12 wx => ∃ (k : Nat) (sv : Value), sv = s10 ∧ s12 = .int .i64 k ∧ k ≤ M + 1 ∧ s11 = .int .i64 (bestR f k) ∧ Hid (Ra W2 A f k sv wx)) (fun _ _ s12 _ => M + 1 - (intOf s12).toNat)
  case atStart => exact ⟨0, _, rfl, by go_num, by omega, rfl, L0⟩
  case round =>
  obtain ⟨k, sv, rfl, rfl, hk, rfl, HS⟩ := hrel
  obtain ⟨wk, rfl⟩ : ∃ u : World, u = wr := ⟨_, rfl⟩
  clear L0
  obtain ⟨x, hx⟩ : ∃ x, bestR f k = x := ⟨_, rfl⟩
  rw [hx]
  have HX := Lib.hid hx
  clear hx
  by_cases hlt : k ≤ M
  · have hlti : (k : Int) ≤ (M : Int) := by omega
    obtain ⟨d, hd⟩ : ∃ d, encF (eDif y1 q1 j1 y2 q2 j2) k = d := ⟨_, rfl⟩
    have hfk : f k = max x d := by
      rw [← hd, ← HX.out, ← HF.out]
      exact bestR_step GY.out.1 GY.out.2 (by have := HMB.out; omega)
    have HD := Lib.hid hd
    have HFK := Lib.hid hfk
    clear hd hfk
    go_upto_region 9 with fail
    obtain ⟨g0, g1, g2, g3, g4, g5⟩ := BX.out.1.box.below HS.out.below
    obtain ⟨d0, d1, d2, d3, d4, d5⟩ := BX.out.2.box.below HS.out.below
    go_cut [11] (fun s11 wx => s11 = .int .i64 (max x d) ∧ Hid (Ra W2 A f k sv wx))
    case first =>
      go_wp2_with fail
      clear g0 g1 g2 g3 g4 g5 d0 d1 d2 d3 d4 d5
      with_reducible refine (rdif6_any b1 m1 c1 y1 q1 j1 GY.out.1 b2 m2 c2 y2 q2 j2 GY.out.2 k k rfl (by have := HMB.out; omega) d HD.out _ (BX.out.1.row.under HS.out.below) (BX.out.2.row.under HS.out.below)).mono ?_
      rintro e u3 ⟨rfl, hb⟩
      have HS1 := Lib.hid (HS.out.call hb)
      clear hb
      by_cases hxd : x < d
      · go_wp2_with fail
        go_meet
        exact ⟨by congr 1; omega, HS1⟩
      · go_wp2_with fail
        go_meet
        exact ⟨by congr 1; omega, HS1⟩
    case rest =>
    obtain ⟨rfl, HS1⟩ := hcut
    obtain ⟨w7, rfl⟩ : ∃ u : World, u = wc := ⟨_, rfl⟩
    obtain ⟨vv, hvv⟩ : ∃ v, max x d = v := ⟨_, rfl⟩
    rw [hvv]
    have HVV := Lib.hid (HFK.out.trans hvv)
    clear hvv g0 g1 g2 g3 g4 g5 d0 d1 d2 d3 d4 d5
    have N8 : Hid (∀ q u, [Value.int .i64 vv][q]? = some u → (w7.alloc (.cells #[.int .i64 vv] 3)).cell? ((⟨w7.heap.size, 0, none⟩ : Addr).add q) = some u) := Lib.hid (World.news_of_block (cs := #[.int .i64 vv]) (t := 3) (fr := (0, 0)) (heap_alloc_new w7 _))
    have L8 := Lib.hid (HS1.out.call ((Below.refl _ _).alloc (Nat.le_refl _) (.cells #[.int .i64 vv] 3)))
    have hMb := HMB.out
    have hL7 := HS1.out.lt
    go_wp2_with (at_builtin; refine wpList_append_own _ rfl _ _ 27 rfl (A + 2) 3 ii0 (.int .i64 0) 1 8 Try.underlying27 ihi ihz0 ihz1 ihz2 rfl (by decide) _ _ _ rfl L8.out.own ⟨w7.heap.size, 0, none⟩ 1 1 [.int .i64 vv] rfl rfl N8.out ?c2 ?c3 ?c4 ?c5 ?_)
    case c2 => first | rfl | (intro u hu; simp at hu; subst hu; rfl)
    case c3 => unfold maxLen; omega
    case c4 => omega
    case c5 => first | exact L8.out.lt | (have := L8.out.lt; simp at this ⊢; omega)
    intro v' w9 hown' hgrow _
    have L9 := Lib.hid (L8.out.push HWA.out hown' hgrow HVV.out)
    clear hown' hgrow L8 HS HS1 N8
    go_wp2_with fail
    go_roundw
    case rel => exact ⟨k + 1, _, rfl, by go_num, by omega, by show _ = Value.int .i64 (f k); rw [HVV.out], L9⟩
    case measure => simp [intOf]; omega
  have hlti : ¬ (k : Int) ≤ (M : Int) := by omega
  have hkM : k = M + 1 := by omega
  have HBV := Lib.hid (show f M = x by rw [← HX.out, hkM]; rfl)
  have HKM := Lib.hid hkM
  obtain ⟨g, cap, rfl, RL, XL⟩ := HS.out.row (by omega) (by have := HMB.out; omega) (fun t ht => HIN.out t (by have := HMB.out; omega))
  have RM := Lib.hid (show RowZ wk (some ⟨g, 0, none⟩) M cap (firsts f M) by
    have := RL.take M (by omega)
    rwa [firsts_take6 f (by omega)] at this)
  have hcapI : (M : Int) ≤ (cap : Int) := by have := RL.le; omega
  have hcapN : M ≤ cap := by omega
  have RLF := Lib.hid RL
  have HBL := Lib.hid (HB2.out.trans (HS.out.below.mono HB2.out.size))
  have KRL := Lib.hid (KR2.out.below HS.out.below)
  have BXL := Lib.hid (And.intro (BX.out.1.under HS.out.below) (BX.out.2.under HS.out.below))
  have HGA := Lib.hid XL
  obtain ⟨w10, hw⟩ : ∃ w', wk.alloc (.cells #[.slice (some ⟨g, 0, none⟩) M cap, .int .i64 L, .int .i64 0] 38) = w' := ⟨_, rfl⟩
  have hz : Below wk.heap.size wk w10 := by rw [← hw]; exact below_box _
  have X13 := Lib.hid (show Cur3 w10 wk.heap.size (.slice (some ⟨g, 0, none⟩) M cap) (.int .i64 L) (.int .i64 0) by rw [← hw]; exact Cur3.new _ _ _ _ _)
  have HGX := Lib.hid (show g ≠ wk.heap.size by have := (RL.cell_lt6 (by omega)); omega)
  have HBN := Lib.hid (show w.heap.size + 2 ≠ wk.heap.size by have := KRL.out.lt; omega)
  have HBL13 := Lib.hid (show w.heap.size ≤ wk.heap.size from HBL.out.size)
  have HBX := Lib.hid (HBL.out.trans (hz.mono HBL.out.size))
  have KRX := Lib.hid (KRL.out.below hz)
  have RMX := Lib.hid (RM.out.under hz)
  have RLX := Lib.hid (RLF.out.under hz)
  have BXX := Lib.hid (And.intro (BXL.out.1.under hz) (BXL.out.2.under hz))
  have HW := Lib.hid hw
  have hMb := HMB.out
  clear hw hz RL XL hkM
  go_upto_region 12 with fail
  try rw [HW.out]
  obtain ⟨B13, hB⟩ : ∃ B, wk.heap.size = B := ⟨_, rfl⟩
  rw [hB] at X13 HGX HBN HBL13
  try rw [hB]
  clear HW hB
  by_cases hinf : x = 4611686018427387904
  · subst hinf
    obtain ⟨c0, c1, c2, c3, c4, c5⟩ := X13.out
    go_wp2_with fail
    clear c0 c1 c2 c3 c4 c5
    have HRAW := Lib.hid (show RawE (firsts f M) L 0 (eRest y1 q1 j1 y2 q2 j2) by
      have he : eRest y1 q1 j1 y2 q2 j2 M = none := by
        cases e : eRest y1 q1 j1 y2 q2 j2 M with
        | none => rfl
        | some z =>
          exfalso
          have h1 := HBV.out
          rw [← HF.out, encF_some e] at h1
          have := rest_bd GY.out.1 GY.out.2 e
          omega
      obtain ⟨hc, h0⟩ := rest_inf GY.out.1 GY.out.2 (L := L) (by rw [← HMn.out]; exact he)
      have h := rest_raw GY.out.1 GY.out.2 HLC.out.mult HL.out.2 hc
      rw [h0, HF.out, ← HMn.out] at h
      exact h
    )
    refine (rmade_ok _ _ _ _ _ _ HRAW.out _ RMX.out).mono ?_
    rintro e v9 ⟨hb, ⟨a9, n9, cap9, z9, p9, i9, rfl, hr, hf, hx⟩ | ⟨rfl, hno⟩⟩
    · have HP := Lib.hid (GivesE.post (E := eRest z1 p1 i1 z2 p2 i2) (b := w.heap.size + 2) HBX.out (by omega) KRX.out.lt hb hr hx (by rw [← HEE.out]; exact hf))
      obtain ⟨r0, r1, r2, r3, r4, r5⟩ := KRX.out.below hb
      clear hb hr hf hx
      go_wp2_with fail
      exact bodyPost_ret (v := .tuple #[curV a9 n9 cap9 p9 i9, .int .i64 0]) (by simp [results, Try.results53, go_sem, r0, r1, r2]) rfl HP.out
    · have HP := Lib.hid (GivesE.postNo (E := eRest z1 p1 i1 z2 p2 i2) (b := w.heap.size + 2) HBX.out (by omega) hb (by rw [← HEE.out]; exact hno))
      obtain ⟨r0, r1, r2, r3, r4, r5⟩ := KRX.out.below hb
      clear hb hno
      go_wp2_with fail
      exact bodyPost_ret (v := .tuple #[curV none 0 0 0 0, .int .i64 3]) (by simp [results, Try.results53, go_sem, r0, r1, r2]) rfl HP.out
  have t0 : (x == 4611686018427387904) = false := by simpa using hinf
  obtain ⟨fb1, hfb1⟩ : ∃ b, finB y1 q1 j1 = b := ⟨_, rfl⟩
  obtain ⟨fb2, hfb2⟩ : ∃ b, finB y2 q2 j2 = b := ⟨_, rfl⟩
  have HF1 := Lib.hid hfb1
  have HF2 := Lib.hid hfb2
  obtain ⟨G, hG⟩ : ∃ G, restG y1 q1 j1 y2 q2 j2 L = G := ⟨_, rfl⟩
  have HGR := Lib.hid hG
  have HGB := Lib.hid (show 0 ≤ G ∧ G ≤ 128849018880 by rw [← hG]; exact restG_bd GY.out.1 GY.out.2 HL.out.2)
  have HG1 := Lib.hid (show fb1 = true → fb2 = true → G = max 0 (x1 - x2) from fun e1 e2 => by
    rw [← hG, restG_fin (fun i => by rw [finB_inf i] at hfb1; rw [← hfb1] at e1; cases e1) (fun i => by rw [finB_inf i] at hfb2; rw [← hfb2] at e2; cases e2), HK1.out.1, HK2.out.1, Int.mul_comm, HK1.out.2, Int.mul_comm, HK2.out.2])
  have HG0 := Lib.hid (show (fb1 && fb2) = false → G = 0 from fun e => by
    rw [← hG]
    refine restG_inf ?_
    by_cases i1 : InfC y1
    · exact .inl i1
    · by_cases i2 : InfC y2
      · exact .inr i2
      · rw [finB_fin ((okC_iff y1 q1 j1).2 GY.out.1) i1] at hfb1
        rw [finB_fin ((okC_iff y2 q2 j2).2 GY.out.2) i2] at hfb2
        rw [← hfb1, ← hfb2] at e
        cases e)
  clear hfb1 hfb2 hG
  go_upto_region 14 with fail
  go_cut [59] (fun s59 wx => s59 = .bool (fb1 && fb2) ∧ Hid (Below w10.heap.size w10 wx))
  case first =>
    obtain ⟨d0, d1, d2, d3, d4, d5⟩ := BXX.out.1.box
    go_wp2_with fail
    clear d0 d1 d2 d3 d4 d5
    refine (rfinite_any b1 m1 c1 y1 q1 j1 ⟨by omega, by omega⟩ ⟨by omega, by omega⟩ fb1 HF1.out _ BXX.out.1.row).mono ?_
    rintro e u3 ⟨rfl, hb⟩
    have HB3 := Lib.hid hb
    clear hb
    cases fb1 with
    | false =>
      go_wp2_with fail
      go_meet
      exact ⟨rfl, HB3⟩
    | true =>
      obtain ⟨d0, d1, d2, d3, d4, d5⟩ := BXX.out.2.box.below HB3.out
      go_wp2_with fail
      clear d0 d1 d2 d3 d4 d5
      refine (rfinite_any b2 m2 c2 y2 q2 j2 ⟨by omega, by omega⟩ ⟨by omega, by omega⟩ fb2 HF2.out _ (BXX.out.2.row.under HB3.out)).mono ?_
      rintro e u4 ⟨rfl, hb⟩
      have HB4 := Lib.hid (HB3.out.trans (hb.mono HB3.out.size))
      clear hb
      go_wp2_with fail
      go_meet
      exact ⟨by simp, HB4⟩
  case rest =>
  obtain ⟨rfl, HB14⟩ := hcut
  obtain ⟨w11, rfl⟩ : ∃ u : World, u = wc := ⟨_, rfl⟩
  have X13 := Lib.hid (X13.out.below HB14.out)
  have RMX := Lib.hid (RMX.out.under HB14.out)
  have RLX := Lib.hid (RLX.out.under HB14.out)
  have KRX := Lib.hid (KRX.out.below HB14.out)
  have BXX := Lib.hid (And.intro (BXX.out.1.under HB14.out) (BXX.out.2.under HB14.out))
  have HBX := Lib.hid (HBX.out.trans (HB14.out.mono HBX.out.size))
  clear HB14
  go_upto_if 59 with (fail)
  go_cut [] (fun wx => Hid (Cur3 wx B13 (.slice (some ⟨g, 0, none⟩) M cap) (.int .i64 L) (.int .i64 G)) ∧ Hid (RowZ wx (some ⟨g, 0, none⟩) M cap (firsts f M)) ∧ Hid (RowZ wx (some ⟨g, 0, none⟩) k cap (firsts f k)) ∧ Hid (Cur3 wx (w.heap.size + 2) (.slice none 0 0) (.int .i64 0) (.int .i64 0)) ∧ Hid (Below w.heap.size w wx))
  case first =>
    have zero : (fb1 && fb2) = false → G = 0 := HG0.out
    have HZ := Lib.hid zero
    clear zero
    cases fb1 with
    | false =>
      obtain rfl : G = 0 := HZ.out rfl
      rw [Bool.false_and]
      go_wp2_with fail
      go_meet
      exact ⟨X13, RMX, RLX, KRX, HBX⟩
    | true =>
    cases fb2 with
    | false =>
      obtain rfl : G = 0 := HZ.out rfl
      go_wp2_with fail
      go_meet
      exact ⟨X13, RMX, RLX, KRX, HBX⟩
    | true =>
      have hGm := HG1.out rfl rfl
      have HGM := Lib.hid hGm
      clear hGm
      obtain ⟨d0, d1, d2, d3, d4, d5⟩ := BXX.out.1.box
      obtain ⟨e0, e1, e2, e3, e4, e5⟩ := BXX.out.2.box
      go_wp2_with fail
      clear d0 d1 d2 d3 d4 d5 e0 e1 e2 e3 e4 e5
      refine (rslopes b1 m1 c1 q1 j1 b2 m2 c2 q2 j2 L k1 k2 x1 x2 HKQ.out.1.1.1 HKQ.out.1.1.2.1 HKQ.out.1.1.2.2.1 HKQ.out.1.1.2.2.2 HKQ.out.1.2.1 HKQ.out.1.2.2.1 HKQ.out.1.2.2.2 HKQ.out.2.1.1 HKQ.out.2.1.2.1 HKQ.out.2.1.2.2.1 HKQ.out.2.1.2.2.2 HKQ.out.2.2.1 HKQ.out.2.2.2.1 HKQ.out.2.2.2.2 HXB.out.1 HXB.out.2 _).mono ?_
      rintro e u5 ⟨rfl, hb⟩
      have X5 := Lib.hid (X13.out.below hb)
      have RM5 := Lib.hid (RMX.out.under hb)
      have RL5 := Lib.hid (RLX.out.under hb)
      have KR5 := Lib.hid (KRX.out.below hb)
      have HB5 := Lib.hid (HBX.out.trans (hb.mono HBX.out.size))
      clear hb
      have HNE := Lib.hid (show ∀ y : Addr, (some ⟨g, 0, none⟩ : Option Addr) = some y → y.block ≠ B13 from fun y hy => by cases hy; exact HGX.out)
      obtain ⟨d0, d1, d2, d3, d4, d5⟩ := X5.out
      by_cases hx0 : 0 < x1 - x2
      · obtain rfl : G = x1 - x2 := by have := HGM.out; omega
        go_wp2_with fail
        go_meet
        exact ⟨X5.out.set2 _, RM5.out.store (fun y hy _ => HNE.out y hy) _ _, RL5.out.store (fun y hy _ => HNE.out y hy) _ _, KR5.out.other HBN.out _ _, HB5.out.setCell (p := ⟨B13, 2, none⟩) HBL13.out _⟩
      · obtain rfl : G = 0 := by have := HGM.out; omega
        go_wp2_with fail
        go_meet
        exact ⟨X5.out.set2 _, RM5.out.store (fun y hy _ => HNE.out y hy) _ _, RL5.out.store (fun y hy _ => HNE.out y hy) _ _, KR5.out.other HBN.out _ _, HB5.out.setCell (p := ⟨B13, 2, none⟩) HBL13.out _⟩
  case rest =>
  clear X13 RMX RLX KRX HBX BXX
  obtain ⟨X13, RMX, RLX, KRX, HBX⟩ := hcut
  obtain ⟨w12, rfl⟩ : ∃ u : World, u = wc := ⟨_, rfl⟩
  obtain ⟨y4, hy4⟩ : ∃ v, f 400 = v := ⟨_, rfl⟩
  have HY4 := Lib.hid hy4
  have hyb : 0 ≤ y4 ∧ y4 ≤ 4611686018427387904 := by
    have h := (rest_mid GY.out.1 GY.out.2 (t := 400) (by omega)).bd
    rw [HF.out, hy4] at h
    omega
  have hgb := HGB.out
  have hsw : IntKind.i64.wrap (y4 + G) = y4 + G := IntWalk.i64_in _ ⟨by omega, by omega⟩
  obtain ⟨S9, hS9⟩ : ∃ v, y4 + G = v := ⟨_, rfl⟩
  rw [hS9] at hsw
  have HS9 := Lib.hid hS9
  obtain ⟨c0, c1, c2, c3, c4, c5⟩ := X13.out
  have g4 : w12.cell? ⟨g, 400, none⟩ = some (.int .i64 y4) := by
    have := cell_at6 RLX.out (i := 400) (by have := HKM.out; omega)
    rwa [firsts_getD _ _ _ (by have := HKM.out; omega), hy4] at this
  have gM : w12.cell? ⟨g, M, none⟩ = some (.int .i64 x) := by
    have := cell_at6 RLX.out (i := M) (by have := HKM.out; omega)
    rwa [firsts_getD _ _ _ (by have := HKM.out; omega), HBV.out] at this
  have hkI : (M : Int) < (k : Int) := by have := HKM.out; omega
  have hk4 : (400 : Int) < (k : Int) := by have := HKM.out; omega
  clear hy4
  by_cases hcx : x = S9
  · subst hcx
    go_upto_region 16 with fail
    go_quiet (fail)
    generalize hwd : w12.drewN _ = v1
    have hd : Below w12.heap.size w12 v1 := by rw [← hwd]; exact (Below.refl _ _).drewN _
    have HD1 := Lib.hid hd
    have RMX := Lib.hid (RMX.out.under hd)
    have KRX := Lib.hid (KRX.out.below hd)
    have HBX := Lib.hid (HBX.out.trans (hd.mono HBX.out.size))
    clear c0 c1 c2 c3 c4 c5 g4 gM hd hwd
    obtain ⟨c0, c1, c2, c3, c4, c5⟩ := X13.out.below HD1.out
    go_wp2_with fail
    clear c0 c1 c2 c3 c4 c5
    have HRAW := Lib.hid (show RawE (firsts f M) L G (eRest y1 q1 j1 y2 q2 j2) by
      have h := rest_raw GY.out.1 GY.out.2 HLC.out.mult HL.out.2 (by rw [HF.out, ← HMn.out, HBV.out, HY4.out, HGR.out]; have := HS9.out; omega)
      rw [HGR.out, HF.out, ← HMn.out] at h
      exact h
    )
    refine (rmade_ok _ _ _ _ _ _ HRAW.out _ RMX.out).mono ?_
    rintro e v9 ⟨hb, ⟨a9, n9, cap9, z9, p9, i9, rfl, hr, hf, hx⟩ | ⟨rfl, hno⟩⟩
    · have HP := Lib.hid (GivesE.post (E := eRest z1 p1 i1 z2 p2 i2) (b := w.heap.size + 2) HBX.out (by omega) KRX.out.lt hb hr hx (by rw [← HEE.out]; exact hf))
      obtain ⟨r0, r1, r2, r3, r4, r5⟩ := KRX.out.below hb
      clear hb hr hf hx
      go_wp2_with fail
      exact bodyPost_ret (v := .tuple #[curV a9 n9 cap9 p9 i9, .int .i64 0]) (by simp [results, Try.results53, go_sem, r0, r1, r2]) rfl HP.out
    · have HP := Lib.hid (GivesE.postNo (E := eRest z1 p1 i1 z2 p2 i2) (b := w.heap.size + 2) HBX.out (by omega) hb (by rw [← HEE.out]; exact hno))
      obtain ⟨r0, r1, r2, r3, r4, r5⟩ := KRX.out.below hb
      clear hb hno
      go_wp2_with fail
      exact bodyPost_ret (v := .tuple #[curV none 0 0 0 0, .int .i64 3]) (by simp [results, Try.results53, go_sem, r0, r1, r2]) rfl HP.out
  · have t1 : (x != S9) = true := by simpa using hcx
    go_upto_region 16 with fail
    go_quiet (fail)
    generalize hwd : w12.drewN _ = v1
    have hd : Below w12.heap.size w12 v1 := by rw [← hwd]; exact (Below.refl _ _).drewN _
    have HP := Lib.hid (GivesE.postNo (E := eRest z1 p1 i1 z2 p2 i2) (b := w.heap.size + 2) HBX.out (by omega) hd (by
      rw [← HEE.out]
      intro hE
      refine (rest_sett GY.out.1 GY.out.2 HLC.out.mult).no ?_ hE.can
      rw [HF.out, ← HMn.out, HBV.out, HY4.out, HGR.out]
      intro h
      have := HS9.out
      exact hcx (by omega)))
    obtain ⟨r0, r1, r2, r3, r4, r5⟩ := KRX.out.below hd
    clear hd hwd c0 c1 c2 c3 c4 c5 g4 gM
    go_wp2_with fail
    exact bodyPost_ret (v := .tuple #[curV none 0 0 0 0, .int .i64 3]) (by simp [results, Try.results53, go_sem, r0, r1, r2]) rfl HP.out

end Go.Proofs.Ytjipmkgnndldpaa
