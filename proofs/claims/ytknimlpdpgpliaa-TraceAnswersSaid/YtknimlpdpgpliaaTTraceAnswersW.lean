/- The walk of TraceAnswers. By the verifier's side. -/
import Derived.Test.YtknimlpdpgpliaaTCfZ
import Derived.Test.YtknimlpdpgpliaaTTrT
import Derived.Test.YtknimlpdpgpliaaTTrX
import Derived.Test.YtknimlpdpgpliaaTRTrARTrB
import Derived.Test.YtknimlpdpgpliaaTRTrC
import Derived.Test.YtknimlpdpgpliaaTRTrDRTrE
import Derived.Test.YtknimlpdpgpliaaTRTrF
import Derived.Test.YtknimlpdpgpliaaTRTrG
import Derived.Test.YtknimlpdpgpliaaTRTrK
namespace Go.Proofs.Ytknimlpdpgpliaa
open Go.RowKit
set_option linter.unusedSimpArgs false
set_option linter.unusedVariables false

theorem pkR_apartT {u v : World} {a : Option Addr} {n cap b : Nat} {l : List Pk} (h : PkR u a n cap l) (ha : Apart b u v) (hb : ∀ x, a = some x → 1 ≤ n → ¬ x.block = b) : PkR v a n cap l := by
  rcases Nat.eq_zero_or_pos n with h0 | h0
  · exact ⟨h.len, h.le, h.sm, h.cm, .inl ⟨h0, fun _ _ => trivial⟩, h.bd⟩
  · exact pkR_apartZ h ha (fun x hx => hb x hx h0)
/-- The six traces, as they lie in a list; the source. -/
structure T6 (W1 : World) (b Bk : Nat) (ra : Option Addr) (rn rc : Nat) (aT : Nat → Option Addr) (nT cT : Nat → Nat) (lT : Nat → List Pk) (u : World) : Prop where
  cell : ∀ j, j < 6 → u.cell? ⟨Bk, j, none⟩ = some (.slice (aT j) (nT j) (cT j))
  pk : ∀ j, j < 6 → PkR u (aT j) (nT j) (cT j) (lT j)
  far : ∀ j, j < 6 → ∀ x, aT j = some x → 1 ≤ nT j → ¬ x.block = b
  ne : ¬ Bk = b
  src : Hld13 W1 b ra rn rc u
section
variable {W1 : World} {b Bk : Nat} {ra : Option Addr} {rn rc : Nat} {aT : Nat → Option Addr} {nT cT : Nat → Nat} {lT : Nat → List Pk} {u v : World}
theorem T6.call (h : T6 W1 b Bk ra rn rc aT nT cT lT u) (hb : Below u.heap.size u v) : T6 W1 b Bk ra rn rc aT nT cT lT v :=
  ⟨fun j hj => (hb.cell (lt_of_cell (h.cell j hj))).trans (h.cell j hj), fun j hj => (h.pk j hj).under hb, h.far, h.ne, hldZ_below h.src hb⟩
theorem T6.take (h : T6 W1 b Bk ra rn rc aT nT cT lT u) (hs : SrcAt v b ra rn rc) (ha : Apart b u v) : T6 W1 b Bk ra rn rc aT nT cT lT v :=
  ⟨fun j hj => (World.cell?_of_block (w := u) (a := ⟨Bk, j, none⟩) (ha.block Bk (lt_of_cell (h.cell j hj)) h.ne)).trans (h.cell j hj), fun j hj => pkR_apartT (h.pk j hj) ha (h.far j hj), h.far, h.ne, h.src.call hs ha⟩
end
/-- One of six. -/
def six {α : Type} (x0 x1 x2 x3 x4 x5 : α) (j : Nat) : α := match j with
  | 0 => x0
  | 1 => x1
  | 2 => x2
  | 3 => x3
  | 4 => x4
  | _ => x5
theorem six_all {P : Nat → Prop} (h0 : P 0) (h1 : P 1) (h2 : P 2) (h3 : P 3) (h4 : P 4) (h5 : P 5) : ∀ j, j < 6 → P j := fun j hj => by
  have : j = 0 ∨ j = 1 ∨ j = 2 ∨ j = 3 ∨ j = 4 ∨ j = 5 := by omega
  rcases this with rfl | rfl | rfl | rfl | rfl | rfl
  · exact h0
  · exact h1
  · exact h2
  · exact h3
  · exact h4
  · exact h5
theorem row_cellsT {w : World} {lb n cap : Nat} {zs : List Int} (h : RowZ w (some ⟨lb, 0, none⟩) n cap zs) : ∀ i, i < n → ∃ z, w.cell? ⟨lb, i, none⟩ = some (.int .i64 z) ∧ In64 z := fun i hi => by
  obtain ⟨x, hx, hc⟩ := h.cell i hi
  cases hx
  have ea : ((⟨lb, 0, none⟩ : Addr).add i) = ⟨lb, i, none⟩ := by unfold Addr.add; split <;> simp_all
  rw [ea] at hc
  exact ⟨_, hc, h.bd i hi⟩
theorem GivesPk.reads {l : List Pk} {w w' : World} {e : Ending} (h : GivesPk l w e w') (hs : l.length ≤ 1000000) (hb : ∀ q ∈ l, Pk64 q) : GivesOwn l w e w' := by
  obtain ⟨a, n, cap, he, h1, h2, h3, h4, h5, h6⟩ := h
  exact ⟨a, n, cap, he, h1, GivesPk.row h2 h3 h4 (by omega) hb h6, h5⟩
theorem orderSays : OrderSays := rorder13

set_option maxRecDepth 100000 in
set_option maxHeartbeats 6400000 in
theorem traceAnswers_walk (W : World) (a0 : Option Addr) (n0 c0 : Nat) (l0 : List Pk) (a1 : Option Addr) (n1 c1 : Nat) (l1 : List Pk) (x y : Int) (hx : In64 x) (hy : In64 y) (a : Option Addr) (n cap : Nat) (h0 : n0 ≤ 100 → PkR W a0 n0 c0 l0) (h1 : n1 ≤ 100 → PkR W a1 n1 c1 l1) (f0 : ∀ z, a0 = some z → 1 ≤ n0 → z.block < W.heap.size) (f1 : ∀ z, a1 = some z → 1 ≤ n1 → z.block < W.heap.size) (hrow : RowAt W a n cap) :
    Calls Try.prog 7 #[.slice a0 n0 c0, .slice a1 n1 c1, .int .i64 x, .int .i64 y, .slice a n cap] W fun e w' => e = .returned (.bool true) ∧ Below W.heap.size W w' := by
  have HR := Lib.hid hrow
  have HQ0 := Lib.hid h0
  have HQ1 := Lib.hid h1
  have HF := Lib.hid (And.intro f0 f1)
  have HXY := Lib.hid (And.intro hx hy)
  clear hrow h0 h1 f0 f1 hx hy
  by_cases hbig : 100 < n0 ∨ 100 < n1
  · rcases hbig with hb | hb
    · have hI : (100 : Int) < (n0 : Int) := by omega
      go_enter Try.func7, Try.ntmps7
      go_wp2_with fail
      refine (awake13 _).mono ?_
      rintro e w1 ⟨rfl, hb1⟩
      go_wp2_with fail
      go_ret
      exact ⟨rfl, hb1⟩
    · by_cases hb0 : 100 < n0
      · have hI : (100 : Int) < (n0 : Int) := by omega
        go_enter Try.func7, Try.ntmps7
        go_wp2_with fail
        refine (awake13 _).mono ?_
        rintro e w1 ⟨rfl, hb1⟩
        go_wp2_with fail
        go_ret
        exact ⟨rfl, hb1⟩
      · have hI : ¬ (100 : Int) < (n0 : Int) := by omega
        have hI1 : (100 : Int) < (n1 : Int) := by omega
        go_enter Try.func7, Try.ntmps7
        go_wp2_with fail
        refine (awake13 _).mono ?_
        rintro e w1 ⟨rfl, hb1⟩
        go_wp2_with fail
        go_ret
        exact ⟨rfl, hb1⟩
  have hI : ¬ (100 : Int) < (n0 : Int) := by omega
  have hI1 : ¬ (100 : Int) < (n1 : Int) := by omega
  have HBIG := Lib.hid hbig
  have HP0 := Lib.hid (HQ0.out (by omega))
  have HP1 := Lib.hid (HQ1.out (by omega))
  clear HQ0 HQ1
  clear hbig
  go_enter Try.func7, Try.ntmps7
  go_wp2_with fail
  refine (new_any a n cap _ HR.out).mono ?_
  rintro e ww1 ⟨rfl, hb1, hz1', ra, rn, rc, hs1⟩
  have HB1 := Lib.hid hb1
  have HS1 := Lib.hid hs1
  have hbl : W.heap.size < ww1.heap.size := by omega
  have P01 := Lib.hid (And.intro (HP0.out.under hb1) (HP1.out.under hb1))
  clear hb1 hz1' hs1 hI hI1
  go_wp2_with fail
  refine (traffic14 12 (by omega) 3 90 (by decide) (by decide) _ ra rn rc _ HS1.out).mono ?_
  rintro e ww2 ⟨l2, a2, n2, c2, rfl, hd2, hs2, he2, hr2, hx2⟩
  have HH2 := Lib.hid ((Hld13.start HS1.out).call hs2 he2)
  have X0 := Lib.hid (show (∀ z, a0 = some z → 1 ≤ n0 → ¬ z.block = W.heap.size) ∧ (∀ z, a1 = some z → 1 ≤ n1 → ¬ z.block = W.heap.size) ∧ (∀ z, a2 = some z → ¬ z.block = W.heap.size) from ⟨fun z hz hn => by have := HF.out.1 z hz hn; omega, fun z hz hn => by have := HF.out.2 z hz hn; omega, fun z hz => by have := hx2 z hz; omega⟩)
  have P2 := Lib.hid (And.intro (pkR_apartT P01.out.1 he2 X0.out.1) (And.intro (pkR_apartT P01.out.2 he2 X0.out.2.1) hr2))
  have hn2 : n2 ≤ 60 := by have := hd2.len; have := hr2.len; omega
  clear hd2 hs2 he2 hr2 hx2 P01
  go_wp2_with fail
  refine (traffic14 12 (by omega) 3 90 (by decide) (by decide) _ ra rn rc _ (HH2.out.at HS1.out)).mono ?_
  rintro e ww3 ⟨l3, a3, n3, c3, rfl, hd3, hs3, he3, hr3, hx3⟩
  have HH3 := Lib.hid (HH2.out.call hs3 he3)
  have X3 := Lib.hid (show ∀ z, a3 = some z → ¬ z.block = W.heap.size from fun z hz => by have := hx3 z hz; have := HH2.out.lt; omega)
  have P3 := Lib.hid (And.intro (pkR_apartT P2.out.1 he3 X0.out.1) (And.intro (pkR_apartT P2.out.2.1 he3 X0.out.2.1) (And.intro (pkR_apartZ P2.out.2.2 he3 X0.out.2.2) hr3)))
  have hn3 : n3 ≤ 60 := by have := hd3.len; have := hr3.len; omega
  clear hd3 hs3 he3 hr3 hx3 P2 HH2
  go_wp2_with fail
  refine (broken13 _ ra rn rc a2 n2 c2 l2 hn2 _ (HH3.out.at HS1.out) P3.out.2.2.1).mono ?_
  rintro e ww4 ⟨l4, a4, n4, c4, rfl, hl4, hs4, he4, hr4, hx4⟩
  have HH4 := Lib.hid (HH3.out.call hs4 he4)
  have X4 := Lib.hid (show ∀ z, a4 = some z → ¬ z.block = W.heap.size from fun z hz => by have := hx4 z hz; have := HH3.out.lt; omega)
  have P4 := Lib.hid (And.intro (pkR_apartT P3.out.1 he4 X0.out.1) (And.intro (pkR_apartT P3.out.2.1 he4 X0.out.2.1) (And.intro (pkR_apartZ P3.out.2.2.1 he4 X0.out.2.2) (And.intro (pkR_apartZ P3.out.2.2.2 he4 X3.out) hr4))))
  have hn4 : n4 ≤ 62 := by have := hr4.len; omega
  clear hl4 hs4 he4 hr4 hx4 P3 HH3
  go_wp2_with fail
  refine (broken13 _ ra rn rc a3 n3 c3 l3 hn3 _ (HH4.out.at HS1.out) P4.out.2.2.2.1).mono ?_
  rintro e ww5 ⟨l5, a5, n5, c5, rfl, hl5, hs5, he5, hr5, hx5⟩
  have HH5 := Lib.hid (HH4.out.call hs5 he5)
  have X5 := Lib.hid (show ∀ z, a5 = some z → ¬ z.block = W.heap.size from fun z hz => by have := hx5 z hz; have := HH4.out.lt; omega)
  have P5 := Lib.hid (And.intro (pkR_apartT P4.out.1 he5 X0.out.1) (And.intro (pkR_apartT P4.out.2.1 he5 X0.out.2.1) (And.intro (pkR_apartZ P4.out.2.2.1 he5 X0.out.2.2) (And.intro (pkR_apartZ P4.out.2.2.2.1 he5 X3.out) (And.intro (pkR_apartZ P4.out.2.2.2.2 he5 X4.out) hr5)))))
  have hn5 : n5 ≤ 62 := by have := hr5.len; omega
  clear hl5 hs5 he5 hr5 hx5 P4 HH4
  go_upto_region 6 with fail
  obtain ⟨V, hV⟩ : ∃ V, ww5.alloc (.cells #[.slice a0 n0 c0, .slice a1 n1 c1, .slice a2 n2 c2, .slice a3 n3 c3, .slice a4 n4 c4, .slice a5 n5 c5] 45) = V := ⟨_, rfl⟩
  have hbV : Below ww5.heap.size ww5 V := by rw [← hV]; exact (Below.refl _ _).alloc (Nat.le_refl _) _
  have HT0 := Lib.hid (show T6 ww1 W.heap.size ww5.heap.size ra rn rc (six a0 a1 a2 a3 a4 a5) (six n0 n1 n2 n3 n4 n5) (six c0 c1 c2 c3 c4 c5) (six l0 l1 l2 l3 l4 l5) V from
    ⟨six_all (by rw [← hV]; exact cell_new13 rfl) (by rw [← hV]; exact cell_new13 rfl) (by rw [← hV]; exact cell_new13 rfl) (by rw [← hV]; exact cell_new13 rfl) (by rw [← hV]; exact cell_new13 rfl) (by rw [← hV]; exact cell_new13 rfl),
     six_all (P5.out.1.under hbV) (P5.out.2.1.under hbV) (P5.out.2.2.1.under hbV) (P5.out.2.2.2.1.under hbV) (P5.out.2.2.2.2.1.under hbV) (P5.out.2.2.2.2.2.under hbV),
     six_all X0.out.1 X0.out.2.1 (fun z hz _ => X0.out.2.2 z hz) (fun z hz _ => X3.out z hz) (fun z hz _ => X4.out z hz) (fun z hz _ => X5.out z hz), by have := HH5.out.lt; omega, hldZ_below HH5.out hbV⟩)
  have HSM := Lib.hid (show ∀ j, j < 6 → six n0 n1 n2 n3 n4 n5 j ≤ 100 from six_all (by have := HBIG.out; show n0 ≤ 100; omega) (by have := HBIG.out; show n1 ≤ 100; omega) (by show n2 ≤ 100; omega) (by show n3 ≤ 100; omega) (by show n4 ≤ 100; omega) (by show n5 ≤ 100; omega))
  rw [hV]
  clear hV hbV P5 HH5 X0 X3 X4 X5 hn2 hn3 hn4 hn5
  obtain ⟨Bk, hBk⟩ : ∃ Bk, ww5.heap.size = Bk := ⟨_, rfl⟩
  rw [hBk] at HT0 ⊢
  clear hBk
  obtain ⟨aT, haT⟩ : ∃ f, six a0 a1 a2 a3 a4 a5 = f := ⟨_, rfl⟩
  obtain ⟨nT, hnT⟩ : ∃ f, six n0 n1 n2 n3 n4 n5 = f := ⟨_, rfl⟩
  obtain ⟨cT, hcT⟩ : ∃ f, six c0 c1 c2 c3 c4 c5 = f := ⟨_, rfl⟩
  obtain ⟨lT, hlT⟩ : ∃ f, six l0 l1 l2 l3 l4 l5 = f := ⟨_, rfl⟩
  rw [haT, hnT, hcT, hlT] at HT0
  rw [hnT] at HSM
  clear haT hnT hcT hlT
  go_wp2_with fail
  go_loopw [63] (fun s63 wx => ∃ i : Nat, s63 = .int .i64 i ∧ i ≤ 6 ∧ Hid (T6 ww1 W.heap.size Bk ra rn rc aT nT cT lT wx)) (fun s63 _ => 6 - (intOf s63).toNat)
  case atStart => exact ⟨0, by go_num, by omega, HT0⟩
  case round =>
    obtain ⟨i, rfl, hi, HT⟩ := hrel
    obtain ⟨wk, rfl⟩ : ∃ u : World, u = wr := ⟨_, rfl⟩
    clear HT0
    by_cases hlt : i < 6
    · have hlI : (i : Int) < 6 := by omega
      have hwi : IntKind.i64.wrap ((i : Int) + 1) = (i : Int) + 1 := IntWalk.i64_in _ ⟨by omega, by omega⟩
      have ct := HT.out.cell i hlt
      obtain ⟨ai, hai⟩ : ∃ z, aT i = z := ⟨_, rfl⟩
      obtain ⟨ni, hni⟩ : ∃ z, nT i = z := ⟨_, rfl⟩
      obtain ⟨ci, hci⟩ : ∃ z, cT i = z := ⟨_, rfl⟩
      obtain ⟨li, hli⟩ : ∃ z, lT i = z := ⟨_, rfl⟩
      have HPI := Lib.hid (show ∀ u, T6 ww1 W.heap.size Bk ra rn rc aT nT cT lT u → PkR u ai ni ci li from fun u h => by have := h.pk i hlt; rwa [hai, hni, hci, hli] at this)
      have hn100 : ni ≤ 100 := by rw [← hni]; exact HSM.out i hlt
      rw [hai, hni, hci] at ct
      have HBD := Lib.hid (HPI.out _ HT.out).bd
      have HLN := Lib.hid (HPI.out _ HT.out).len
      clear hai hni hci hli
      go_wp2_with fail
      refine (validate_any ai ni ci li (vcode li) rfl _ (HPI.out _ HT.out)).mono ?_
      rintro e ww11 ⟨rfl, hb11⟩
      have HT11 := Lib.hid (HT.out.call hb11)
      clear HT
      clear hb11
      clear ct
      go_wp2_with fail
      refine (rvalidate_any ai ni ci li (vcode li) rfl _ (HPI.out _ HT11.out)).mono ?_
      rintro e ww12 ⟨rfl, hb12⟩
      have HT12 := Lib.hid (HT11.out.call hb12)
      clear HT11
      clear hb12
      have HO := Lib.hid (show ∀ u, T6 ww1 W.heap.size Bk ra rn rc aT nT cT lT u → Calls Try.prog 38 #[.slice ai ni ci] u (GivesOwn (isort li) u) from fun u h => (order13 ai ni ci li (by omega) u (HPI.out u h)).mono fun _ _ k => k.reads (by rw [isort_length, HLN.out]; omega) (fun q hq => HBD.out q ((mem_isort q _).1 hq)))
      go_wp2_with fail
      refine (HO.out _ HT12.out).mono ?_
      rintro e ww13 ⟨ao, no, co, rfl, hb13, hro, _⟩
      have HT13 := Lib.hid (HT12.out.call hb13)
      have HRO13 := Lib.hid (hro)
      clear HT12
      clear hb13
      clear hro
      go_wp2_with fail
      refine (rorder13 ai ni ci li _ (by omega) (HPI.out _ HT13.out)).mono ?_
      rintro e ww14 ⟨ap, np, cp, rfl, hb14, hrp, _⟩
      have HT14 := Lib.hid (HT13.out.call hb14)
      have HRO14 := Lib.hid (HRO13.out.under hb14)
      have HRP14 := Lib.hid (hrp)
      clear HT13
      clear HRO13
      clear hb14
      clear hrp
      go_wp2_with fail
      refine (same13_any ao no co (isort li) ap np cp (isort li) true (pkEq_self _) _ HRO14.out HRP14.out).mono ?_
      rintro e wwS ⟨rfl, mS, rfl⟩
      have HTS := Lib.hid (HT14.out.call ((Below.refl _ _).drewN mS))
      clear HT14 HRO14 HRP14
      go_wp2_with fail
      refine (n_any 3 (by omega) (by omega) _ ra rn rc _ (HTS.out.src.at HS1.out)).mono ?_
      rintro e ww15 ⟨c3, hc3, rfl, hs15, he15⟩
      have HEA15 := Lib.hid (show Apart W.heap.size _ ww15 from by first | exact he15 | exact he15.apart)
      have HT15 := Lib.hid (HTS.out.take hs15 HEA15.out)
      clear HTS
      clear hs15 he15
      go_upto_block 2 with fail
      have HL0 := Lib.hid (rowZ_lit ww15 [x, -2, -1, 0, c3] 3 (fun z hz => by
        simp only [List.mem_cons, List.not_mem_nil, or_false] at hz
        rcases hz with rfl | rfl | rfl | rfl | rfl
        · exact HXY.out.1
        · exact ⟨by omega, by omega⟩
        · exact ⟨by omega, by omega⟩
        · exact ⟨by omega, by omega⟩
        · exact ⟨by omega, by omega⟩) (by simp))
      obtain ⟨V16, hV16⟩ : ∃ V, ww15.alloc (.cells #[.int .i64 x, .int .i64 (-2), .int .i64 (-1), .int .i64 0, .int .i64 c3] 3) = V := ⟨_, rfl⟩
      obtain ⟨Lb16, hLb16⟩ : ∃ Lb, ww15.heap.size = Lb := ⟨_, rfl⟩
      have hb16 : Below ww15.heap.size ww15 V16 := by rw [← hV16]; exact (Below.refl _ _).alloc (Nat.le_refl _) _
      have HNE16 := Lib.hid (show ¬ Lb16 = W.heap.size from by have := HT15.out.src.lt; omega)
      have HT16 := Lib.hid (HT15.out.call hb16)
      have HL16 := Lib.hid (show RowZ V16 (some ⟨Lb16, 0, none⟩) 5 5 [x, -2, -1, 0, c3] from by rw [← hV16, ← hLb16]; exact HL0.out)
      clear HT15
      rw [hV16, hLb16]
      clear hV16 hLb16 hb16 HL0
      have HNB := Lib.hid (show ∀ z, (some ⟨Lb16, 0, none⟩ : Option Addr) = some z → ¬ z.block = W.heap.size from fun z hz => by cases hz; exact HNE16.out)
      obtain ⟨zs, hzs⟩ : ∃ zs : List Int, [x, -2, -1, 0, c3] = zs := ⟨_, rfl⟩
      have HLZ := HL16
      rw [hzs] at HLZ
      clear hzs hc3 HL16
      go_wp2_with fail
      go_loopw [85] (fun s85 wx => ∃ j : Nat, s85 = .int .i64 j ∧ j ≤ 5 ∧ Hid (T6 ww1 W.heap.size Bk ra rn rc aT nT cT lT wx) ∧ Hid (RowZ wx (some ⟨Lb16, 0, none⟩) 5 5 zs)) (fun s85 _ => 5 - (intOf s85).toNat)
      case atStart => exact ⟨0, by go_num, by omega, HT16, HLZ⟩
      case round =>
        obtain ⟨j, rfl, hj, HTL, HLL⟩ := hrel
        obtain ⟨wl, rfl⟩ : ∃ u : World, u = wr := ⟨_, rfl⟩
        clear HT16 HLZ
        by_cases hjlt : j < 5
        · have hjI : (j : Int) < 5 := by omega
          have hwj : IntKind.i64.wrap ((j : Int) + 1) = (j : Int) + 1 := IntWalk.i64_in _ ⟨by omega, by omega⟩
          obtain ⟨fz, cz, hfz⟩ := row_cellsT HLL.out j hjlt
          go_wp2_with fail
          refine (n_any 30 (by omega) (by omega) _ ra rn rc _ (HTL.out.src.at HS1.out)).mono ?_
          rintro e ww31 ⟨d3, hd3, rfl, hs31, he31⟩
          have HEA31 := Lib.hid (show Apart W.heap.size _ ww31 from by first | exact he31 | exact he31.apart)
          have HT31 := Lib.hid (HTL.out.take hs31 HEA31.out)
          have HL31 := Lib.hid (HLL.out.apart HEA31.out (fun z hz => HNB.out z hz))
          clear HTL
          clear HLL
          clear hs31 he31
          clear cz
          go_wp2_with fail
          have HL0 := Lib.hid (rowZ_lit ww31 [y, d3, -1, 2000, 2001] 3 (fun z hz => by
            simp only [List.mem_cons, List.not_mem_nil, or_false] at hz
            rcases hz with rfl | rfl | rfl | rfl | rfl
            · exact HXY.out.2
            all_goals exact ⟨by omega, by omega⟩) (by simp))
          obtain ⟨V32, hV32⟩ : ∃ V, ww31.alloc (.cells #[.int .i64 y, .int .i64 d3, .int .i64 (-1), .int .i64 2000, .int .i64 2001] 3) = V := ⟨_, rfl⟩
          obtain ⟨Lb32, hLb32⟩ : ∃ Lb, ww31.heap.size = Lb := ⟨_, rfl⟩
          have hb32 : Below ww31.heap.size ww31 V32 := by rw [← hV32]; exact (Below.refl _ _).alloc (Nat.le_refl _) _
          have HNE32 := Lib.hid (show ¬ Lb32 = W.heap.size from by have := HT31.out.src.lt; omega)
          have HT32 := Lib.hid (HT31.out.call hb32)
          have HL32 := Lib.hid (HL31.out.under hb32)
          have HM32 := Lib.hid (show RowZ V32 (some ⟨Lb32, 0, none⟩) 5 5 [y, d3, -1, 2000, 2001] from by rw [← hV32, ← hLb32]; exact HL0.out)
          clear HT31
          clear HL31
          rw [hV32, hLb32]
          clear hV32 hLb32 hb32 HL0
          have HM0 := HM32
          refine (pick_any Lb32 5 5 (by omega) (by omega) W.heap.size HNE32.out ra rn rc _ (HT32.out.src.at HS1.out) (row_cellsT HM0.out)).mono ?_
          rintro e ww33 ⟨tk, htk, rfl, hs33, he33⟩
          have HEA33 := Lib.hid (show Apart W.heap.size _ ww33 from by first | exact he33 | exact he33.apart)
          have HT33 := Lib.hid (HT32.out.take hs33 HEA33.out)
          have HL33 := Lib.hid (HL32.out.apart HEA33.out (fun z hz => HNB.out z hz))
          clear HT32
          clear HL32
          clear hs33 he33
          clear HM0 hd3
          go_wp2_with fail
          refine (cumulative13 ai ni ci li fz tk (cumC fz tk li) rfl (cumL fz tk li) rfl _ (HPI.out _ HT33.out)).mono ?_
          rintro e ww34 ⟨as1, ns, cs, rfl, hb34, hr1, _⟩
          have HT34 := Lib.hid (HT33.out.call hb34)
          have HL34 := Lib.hid (HL33.out.under hb34)
          have HQ134 := Lib.hid (hr1)
          clear HT33
          clear HL33
          clear hb34
          clear hr1
          go_wp2_with fail
          refine (rcumulative13 ai ni ci li fz tk (cumC fz tk li) rfl (cumL fz tk li) rfl _ (HPI.out _ HT34.out)).mono ?_
          rintro e ww35 ⟨at2, nt2, ct2, rfl, hb35, hr2, _⟩
          have HT35 := Lib.hid (HT34.out.call hb35)
          have HL35 := Lib.hid (HL34.out.under hb35)
          have HQ135 := Lib.hid (HQ134.out.under hb35)
          have HQ235 := Lib.hid (hr2)
          clear HT34
          clear HL34
          clear HQ134
          clear hb35
          clear hr2
          go_wp2_with fail
          refine (rints5_any as1 ns cs (cumL fz tk li) at2 nt2 ct2 (cumL fz tk li) true (by simp) _ HQ135.out HQ235.out).mono ?_
          rintro e ww36 ⟨rfl, md36, rfl⟩
          have HT36 := Lib.hid (HT35.out.call ((Below.refl _ _).drewN md36))
          have HL36 := Lib.hid (HL35.out.under ((Below.refl _ _).drewN md36))
          have HQ136 := Lib.hid (HQ135.out.under ((Below.refl _ _).drewN md36))
          have HQ236 := Lib.hid (HQ235.out.under ((Below.refl _ _).drewN md36))
          clear HT35
          clear HL35
          clear HQ135
          clear HQ235
          clear HQ136
          clear HQ236
          go_wp2_with fail
          refine (bytes13 ai ni ci li fz tk (bytW tk (sel fz li)) rfl _ (HPI.out _ HT36.out)).mono ?_
          rintro e ww37 ⟨rfl, hb37⟩
          have HT37 := Lib.hid (HT36.out.call hb37)
          have HL37 := Lib.hid (HL36.out.under hb37)
          clear HT36
          clear HL36
          clear hb37
          go_wp2_with fail
          refine (rbytes13 ai ni ci li fz tk (bytW tk (sel fz li)) rfl _ (HPI.out _ HT37.out)).mono ?_
          rintro e wwb ⟨rfl, rfl⟩
          go_wp2_with fail
          refine (select13 ai ni ci li fz _ (HPI.out _ HT37.out)).mono ?_
          rintro e ww38 ⟨am, nm, cm, rfl, hb38, hrm, _⟩
          have HT38 := Lib.hid (HT37.out.call hb38)
          have HL38 := Lib.hid (HL37.out.under hb38)
          have HRM38 := Lib.hid (hrm)
          clear HT37
          clear HL37
          clear hb38
          clear hrm
          go_wp2_with fail
          refine (rselect13 ai ni ci li fz _ (HPI.out _ HT38.out)).mono ?_
          rintro e ww39 ⟨ar, nr, cr, rfl, hb39, hrr, _⟩
          have HT39 := Lib.hid (HT38.out.call hb39)
          have HL39 := Lib.hid (HL38.out.under hb39)
          have HRM39 := Lib.hid (HRM38.out.under hb39)
          have HRR39 := Lib.hid (hrr)
          clear HT38
          clear HL38
          clear HRM38
          clear hb39
          clear hrr
          go_wp2_with fail
          refine (rsame13_any am nm cm (sel fz li) ar nr cr (sel fz li) true (pkEq_self _) _ HRM39.out HRR39.out).mono ?_
          rintro e ww40 ⟨rfl, md40, rfl⟩
          have HT40 := Lib.hid (HT39.out.call ((Below.refl _ _).drewN md40))
          have HL40 := Lib.hid (HL39.out.under ((Below.refl _ _).drewN md40))
          have HRM40 := Lib.hid (HRM39.out.under ((Below.refl _ _).drewN md40))
          have HRR40 := Lib.hid (HRR39.out.under ((Below.refl _ _).drewN md40))
          clear HT39
          clear HL39
          clear HRM39
          clear HRR39
          go_wp2_with fail
          go_roundw
          case rel => exact ⟨j + 1, by go_num, by omega, HT40, HL40⟩
          case measure => first | (simp [intOf]; done) | (simp [intOf]; omega)
        · obtain rfl : j = 5 := by omega
          have hjI : ¬ ((5 : Nat) : Int) < 5 := by omega
          clear HLL HNB
          go_wp2_with fail
          go_loopw [142] (fun s142 wx => ∃ m : Nat, s142 = .int .i64 m ∧ m ≤ 6 ∧ Hid (T6 ww1 W.heap.size Bk ra rn rc aT nT cT lT wx)) (fun s142 _ => 6 - (intOf s142).toNat)
          case atStart => exact ⟨0, by go_num, by omega, HTL⟩
          case round =>
            obtain ⟨m, rfl, hm, HTM⟩ := hrel
            obtain ⟨wm, rfl⟩ : ∃ u : World, u = wr := ⟨_, rfl⟩
            clear HTL
            by_cases hmlt : m < 6
            · have hmI : (m : Int) < 6 := by omega
              have hwm : IntKind.i64.wrap ((m : Int) + 1) = (m : Int) + 1 := IntWalk.i64_in _ ⟨by omega, by omega⟩
              have ct := HTM.out.cell m hmlt
              obtain ⟨aj, haj⟩ : ∃ z, aT m = z := ⟨_, rfl⟩
              obtain ⟨nj, hnj⟩ : ∃ z, nT m = z := ⟨_, rfl⟩
              obtain ⟨cj, hcj⟩ : ∃ z, cT m = z := ⟨_, rfl⟩
              obtain ⟨lj, hlj⟩ : ∃ z, lT m = z := ⟨_, rfl⟩
              have HPJ := Lib.hid (show ∀ u, T6 ww1 W.heap.size Bk ra rn rc aT nT cT lT u → PkR u aj nj cj lj from fun u h => by have := h.pk m hmlt; rwa [haj, hnj, hcj, hlj] at this)
              rw [haj, hnj, hcj] at ct
              clear haj hnj hcj hlj
              go_wp2_with fail
              refine (merge13 ai ni ci li aj nj cj lj _ (HPI.out _ HTM.out) (HPJ.out _ HTM.out)).mono ?_
              rintro e ww81 ⟨am, nm, cm, rfl, hb81, hrm⟩
              have HT81 := Lib.hid (HTM.out.call hb81)
              have HRM81 := Lib.hid (hrm)
              clear HTM
              clear hb81
              clear hrm ct
              go_wp2_with fail
              refine (rmerge13 orderSays ai ni ci li aj nj cj lj _ (HPI.out _ HT81.out) (HPJ.out _ HT81.out)).mono ?_
              rintro e ww82 ⟨ar, nr, cr, rfl, hb82, hrr⟩
              have HT82 := Lib.hid (HT81.out.call hb82)
              have HRM82 := Lib.hid (HRM81.out.under hb82)
              have HRR82 := Lib.hid (hrr)
              clear HT81
              clear HRM81
              clear hb82
              clear hrr
              go_wp2_with fail
              refine (rsame13_any am nm cm (mergeL li lj) ar nr cr (mergeL li lj) true (pkEq_self _) _ HRM82.out HRR82.out).mono ?_
              rintro e ww83 ⟨rfl, md83, rfl⟩
              have HT83 := Lib.hid (HT82.out.call ((Below.refl _ _).drewN md83))
              have HRM83 := Lib.hid (HRM82.out.under ((Below.refl _ _).drewN md83))
              have HRR83 := Lib.hid (HRR82.out.under ((Below.refl _ _).drewN md83))
              clear HT82
              clear HRM82
              clear HRR82
              clear HRM83
              clear HRR83
              obtain ⟨eb, heb⟩ : ∃ eb, pkEq li lj = eb := ⟨_, rfl⟩
              go_wp2_with fail
              refine (same13_any ai ni ci li aj nj cj lj eb heb _ (HPI.out _ HT83.out) (HPJ.out _ HT83.out)).mono ?_
              rintro e ww84 ⟨rfl, md84, rfl⟩
              have HT84 := Lib.hid (HT83.out.call ((Below.refl _ _).drewN md84))
              clear HT83
              have HTD := Lib.hid (show T6 ww1 W.heap.size Bk ra rn rc aT nT cT lT (ww82.drewN (md83 + md84)) from by have h := HT84.out; rwa [World.drewN_drewN] at h)
              clear HT84
              go_wp2_with fail
              refine (rsame13_any ai ni ci li aj nj cj lj eb heb _ (HPI.out _ HTD.out) (HPJ.out _ HTD.out)).mono ?_
              rintro e ww85 ⟨rfl, md85, rfl⟩
              have HT85 := Lib.hid (HTD.out.call ((Below.refl _ _).drewN md85))
              clear HTD
              clear heb
              go_wp2_with fail
              go_roundw
              case rel => exact ⟨m + 1, by go_num, by omega, Lib.hid (by first | exact HT85.out | (have h := HT85.out; rw [World.drewN_drewN] at h; exact h))⟩
              case measure => first | (simp [intOf]; done) | (simp [intOf]; omega)
            · obtain rfl : m = 6 := by omega
              have hmI : ¬ ((6 : Nat) : Int) < 6 := by omega
              go_wp2_with fail
              have HL0 := Lib.hid (rowZ_lit wm [y, 0, 5, 1980, 2000, 2001, -1] 3 (fun z hz => by
                simp only [List.mem_cons, List.not_mem_nil, or_false] at hz
                rcases hz with rfl | rfl | rfl | rfl | rfl | rfl | rfl
                · exact HXY.out.2
                all_goals exact ⟨by omega, by omega⟩) (by simp))
              obtain ⟨V101, hV101⟩ : ∃ V, wm.alloc (.cells #[.int .i64 y, .int .i64 0, .int .i64 5, .int .i64 1980, .int .i64 2000, .int .i64 2001, .int .i64 (-1)] 3) = V := ⟨_, rfl⟩
              obtain ⟨Lb101, hLb101⟩ : ∃ Lb, wm.heap.size = Lb := ⟨_, rfl⟩
              have hb101 : Below wm.heap.size wm V101 := by rw [← hV101]; exact (Below.refl _ _).alloc (Nat.le_refl _) _
              have HNE101 := Lib.hid (show ¬ Lb101 = W.heap.size from by have := HTM.out.src.lt; omega)
              have HT101 := Lib.hid (HTM.out.call hb101)
              have HL101 := Lib.hid (show RowZ V101 (some ⟨Lb101, 0, none⟩) 7 7 [y, 0, 5, 1980, 2000, 2001, -1] from by rw [← hV101, ← hLb101]; exact HL0.out)
              clear HTM
              rw [hV101, hLb101]
              clear hV101 hLb101 hb101 HL0
              have HM0 := HL101
              refine (pick_any Lb101 7 7 (by omega) (by omega) W.heap.size HNE101.out ra rn rc _ (HT101.out.src.at HS1.out) (row_cellsT HM0.out)).mono ?_
              rintro e ww102 ⟨dl, hdl, rfl, hs102, he102⟩
              have HEA102 := Lib.hid (show Apart W.heap.size _ ww102 from by first | exact he102 | exact he102.apart)
              have HT102 := Lib.hid (HT101.out.take hs102 HEA102.out)
              clear HT101
              clear hs102 he102
              clear HM0
              go_wp2_with fail
              refine (later_any ai ni ci li dl _ (HPI.out _ HT102.out)).mono ?_
              rintro e ww103 ⟨am, nm, cm, rfl, hb103, hrm⟩
              have HT103 := Lib.hid (HT102.out.call hb103)
              have HRM103 := Lib.hid (hrm)
              clear HT102
              clear hb103
              clear hrm
              go_wp2_with fail
              refine (rlater13 ai ni ci li dl _ (HPI.out _ HT103.out)).mono ?_
              rintro e ww104 ⟨ar, nr, cr, rfl, hb104, hrr⟩
              have HT104 := Lib.hid (HT103.out.call hb104)
              have HRM104 := Lib.hid (HRM103.out.under hb104)
              have HRR104 := Lib.hid (hrr)
              clear HT103
              clear HRM103
              clear hb104
              clear hrr
              go_wp2_with fail
              refine (rsame13_any am nm cm (laterL dl li) ar nr cr (laterL dl li) true (pkEq_self _) _ HRM104.out HRR104.out).mono ?_
              rintro e ww105 ⟨rfl, md105, rfl⟩
              have HT105 := Lib.hid (HT104.out.call ((Below.refl _ _).drewN md105))
              have HRM105 := Lib.hid (HRM104.out.under ((Below.refl _ _).drewN md105))
              have HRR105 := Lib.hid (HRR104.out.under ((Below.refl _ _).drewN md105))
              clear HT104
              clear HRM104
              clear HRR104
              go_wp2_with fail
              go_roundw
              case rel => exact ⟨i + 1, by go_num, by omega, HT105⟩
              case measure => first | (simp [intOf]; done) | (simp [intOf]; omega)
    · obtain rfl : i = 6 := by omega
      have hlI : ¬ ((6 : Nat) : Int) < 6 := by omega
      go_wp2_with fail
      refine (awake13 _).mono ?_
      rintro e ww9 ⟨rfl, hb9⟩
      have HE := Lib.hid (hldZ_below HT.out.src hb9)
      clear hb9
      go_wp2_with fail
      go_ret
      exact ⟨rfl, HB1.out.trans (HE.out.ap.below (Nat.le_refl _) HB1.out.size)⟩
end Go.Proofs.Ytknimlpdpgpliaa
