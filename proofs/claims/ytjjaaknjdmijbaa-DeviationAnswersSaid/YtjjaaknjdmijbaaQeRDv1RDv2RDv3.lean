/- The first tick at which a curve has a value, as the document looks for it. By the verifier's side. -/
import Derived.Test.YtjjaaknjdmijbaaQeDevMDevX
import Derived.Test.YtjjaaknjdmijbaaQeDevB
import Derived.Test.YtjjaaknjdmijbaaQePwEToRowF
import Derived.Test.YtjjaaknjdmijbaaQeRCo1
import Derived.Test.YtjjaaknjdmijbaaQeRefVRefA
import Derived.Test.YtjjaaknjdmijbaaQePwMPwOPwXR56MConMNDecM
import Derived.Test.YtjjaaknjdmijbaaQeConER
namespace Go.Proofs.Ytjjaaknjdmijbaa
open Go.RowKit
set_option linter.unusedSimpArgs false
set_option linter.unusedVariables false

/-- The first tick at which one of the last period's ticks has grown to v, if it has not got it before. -/
def candT (zs : List Int) (p : Nat) (inc v : Int) (j : Nat) : Nat := zs.length - p + j + (((v - zs.getD (zs.length - p + j) 0 - 1) / inc).toNat + 1) * p
/-- The least of the first j. -/
def MinTo (zs : List Int) (p : Nat) (inc v : Int) (j : Nat) (T : Int) : Prop :=
  (j = 0 ∧ T = -1) ∨ (1 ≤ j ∧ (∃ i, i < j ∧ T = (candT zs p inc v i : Nat)) ∧ ∀ i, i < j → T ≤ (candT zs p inc v i : Nat))
section
variable {zs : List Int} {p : Nat} {inc v : Int}
theorem minTo_more {j : Nat} {T : Int} (h : MinTo zs p inc v j T) (h2 : T < 0 ∨ (candT zs p inc v j : Nat) < T) : MinTo zs p inc v (j + 1) (candT zs p inc v j : Nat) := by
  refine .inr ⟨by omega, ⟨j, by omega, rfl⟩, fun i hi => ?_⟩
  by_cases e : i = j
  · subst e; exact Int.le_refl _
  · rcases h with ⟨rfl, _⟩ | ⟨h1, ⟨i', _, h4⟩, h3⟩
    · omega
    · have := h3 i (by omega); omega
theorem minTo_same {j : Nat} {T : Int} (h : MinTo zs p inc v j T) (h2 : ¬ (T < 0 ∨ (candT zs p inc v j : Nat) < T)) : MinTo zs p inc v (j + 1) T := by
  rcases h with ⟨rfl, rfl⟩ | ⟨h1, ⟨i', h5, h4⟩, h3⟩
  · omega
  · refine .inr ⟨by omega, ⟨i', by omega, h4⟩, fun i hi => ?_⟩
    by_cases e : i = j
    · subst e; omega
    · exact h3 i (by omega)
theorem cand_first (g : Good zs p inc) (hf : ¬ InfC zs) (h0 : 0 < inc) (hv : ∀ i, i < zs.length → zs.getD i 0 < v) {T : Int} (h : MinTo zs p inc v p T) : ∃ X : Nat, T = X ∧ FirstP (eC zs p inc) (some v) true X := by
  have g1 := g.p1; have g3 := g.p3
  have per := fun t (ht : zs.length - p ≤ t) (k : Nat) => (g.per hf).mul k t ht
  rcases h with ⟨h, _⟩ | ⟨_, ⟨i, hi, rfl⟩, hm⟩
  · omega
  refine ⟨_, rfl, .inl ⟨rfl, ?_, fun y hy h => ?_⟩⟩
  · unfold candT
    rw [eC_fin hf, per _ (by omega), atC_lt (by omega)]
    have hz := hv (zs.length - p + i) (by omega)
    have hq : 0 ≤ (v - zs.getD (zs.length - p + i) 0 - 1) / inc := Int.ediv_nonneg (by omega) (by omega)
    have hd := Int.lt_ediv_add_one_mul_self (v - zs.getD (zs.length - p + i) 0 - 1) h0
    refine ole_some ?_
    rw [Int.natCast_add, Int.toNat_of_nonneg hq]
    show v ≤ zs.getD (zs.length - p + i) 0 + ((v - zs.getD (zs.length - p + i) 0 - 1) / inc + 1) * inc
    omega
  · rw [eC_fin hf, ole_some_iff] at h
    by_cases hn : y < zs.length
    · rw [atC_lt hn] at h
      have := hv y hn
      omega
    · obtain ⟨j, m, hj, e⟩ : ∃ j m, j < p ∧ y = zs.length - p + j + m * p := by
        refine ⟨(y - (zs.length - p)) % p, (y - (zs.length - p)) / p, Nat.mod_lt _ (by omega), ?_⟩
        have := Nat.div_add_mod (y - (zs.length - p)) p
        rw [Nat.mul_comm] at this
        omega
      rw [e, per _ (by omega), atC_lt (by omega)] at h
      have hz := hv (zs.length - p + j) (by omega)
      have hq : (v - zs.getD (zs.length - p + j) 0 - 1) / inc < (m : Int) := by
        refine Int.ediv_lt_of_lt_mul h0 ?_
        omega
      have hq0 : 0 ≤ (v - zs.getD (zs.length - p + j) 0 - 1) / inc := Int.ediv_nonneg (by omega) (by omega)
      have hk : ((v - zs.getD (zs.length - p + j) 0 - 1) / inc).toNat + 1 ≤ m := by omega
      have h3 := Nat.mul_le_mul_right p hk
      have h4 := hm j hj
      unfold candT at h4 hy
      omega
theorem cand_bd (g : Good zs p inc) (hv2 : v ≤ 1125899906842624) (h0 : 0 < inc) (hv : ∀ i, i < zs.length → zs.getD i 0 < v) {j : Nat} (hj : j < p) : 0 ≤ (v - zs.getD (zs.length - p + j) 0 - 1) / inc ∧ (v - zs.getD (zs.length - p + j) 0 - 1) / inc ≤ 1125899906842624 ∧ 0 ≤ zs.getD (zs.length - p + j) 0 ∧ zs.getD (zs.length - p + j) 0 < v ∧ (candT zs p inc v j : Int) = zs.length - p + j + ((v - zs.getD (zs.length - p + j) 0 - 1) / inc + 1) * p ∧ (candT zs p inc v j : Int) ≤ 144115188075855872 := by
  have g1 := g.p1; have g3 := g.p3; have g2 := g.p2; have g4 := g.few
  have hz := hv (zs.length - p + j) (by omega)
  have hz0 : 0 ≤ zs.getD (zs.length - p + j) 0 := by
    rcases g.val (zs.length - p + j) (by omega) with h | h
    · exact h.1
    · rw [h]; decide
  have hq : 0 ≤ (v - zs.getD (zs.length - p + j) 0 - 1) / inc := Int.ediv_nonneg (by omega) (by omega)
  have hq2 : (v - zs.getD (zs.length - p + j) 0 - 1) / inc ≤ v - zs.getD (zs.length - p + j) 0 - 1 := Int.ediv_le_self _ (by omega)
  have e : (candT zs p inc v j : Int) = zs.length - p + j + ((v - zs.getD (zs.length - p + j) 0 - 1) / inc + 1) * p := by
    unfold candT
    simp only [Int.natCast_add, Int.natCast_mul, Int.natCast_sub g3, Int.toNat_of_nonneg hq]; rfl
  refine ⟨hq, by omega, hz0, hz, e, ?_⟩
  rw [e]
  have h5 : ((v - zs.getD (zs.length - p + j) 0 - 1) / inc + 1) * (p : Int) ≤ 1125899906842624 * 120 := Int.mul_le_mul (by omega) (by omega) (by omega) (by omega)
  omega
end
end Go.Proofs.Ytjjaaknjdmijbaa

namespace Go.Proofs.Ytjjaaknjdmijbaa
open Go.RowKit
set_option linter.unusedSimpArgs false
set_option linter.unusedVariables false

structure BB (w : World) (a : Option Addr) (n cap p : Nat) (inc : Int) (zs : List Int) (u : World) : Prop where
  f : Bx u w.heap.size a n cap p inc zs
  below : Below w.heap.size w u
theorem BB.call {w u v : World} {a : Option Addr} {n cap p : Nat} {inc : Int} {zs : List Int} (h : BB w a n cap p inc zs u) (hb : Below u.heap.size u v) : BB w a n cap p inc zs v := ⟨h.f.under hb, h.below.trans (hb.mono h.below.size)⟩

set_option maxRecDepth 100000 in
set_option maxHeartbeats 6400000 in
theorem rfirst10 (a : Option Addr) (n cap : Nat) (zs : List Int) (p : Nat) (inc : Int) (g : Good zs p inc) (V : Option Int) (hV : Asks V) (x : Int) (hx : enc V = x) (w : World) (h : RowZ w a n cap zs) :
    Calls Try.prog 128 #[curV a n cap p inc, .int .i64 x] w (GivesFirst (eC zs p inc) V w) := by
  obtain ⟨W, hW⟩ : ∃ W, w.alloc (.cells #[.slice a n cap, .int .i64 p, .int .i64 inc] 24) = W := ⟨_, rfl⟩
  have hlen := h.len
  have hfew := g.few
  have hp1 := g.p1
  have hp3 := g.p3
  have hp2 := g.p2
  have hi0 := g.i0
  have hi1 := g.i1
  have hvb : 0 ≤ x ∧ x ≤ 4611686018427387904 := by
    rw [← hx]
    cases V with
    | none => exact ⟨by decide, by decide⟩
    | some v => have := hV v rfl; exact ⟨this.1, by show v ≤ _; omega⟩
  have hVi : ∀ v, V = some v → v < infV := fun v hv => by have := (hV v hv).2; unfold infV; omega
  have hn1 : 1 ≤ n := by omega
  have hn4 : n ≤ 400 := by omega
  have hpn : p ≤ n := by omega
  obtain ⟨q, rfl, _⟩ := h.cell 0 hn1
  have T0 := Lib.hid (show BB w (some q) n cap p inc zs W by rw [← hW]; exact ⟨Bx.new h, below_box _⟩)
  have G := Lib.hid g
  have HV := Lib.hid hV
  have HX := Lib.hid (And.intro hx hVi)
  have HL := Lib.hid hlen
  have HW := Lib.hid hW
  have HC := Lib.hid (show ∀ u, BB w (some q) n cap p inc zs u → ∀ i, i < n → u.cell? (q.add i) = some (.int .i64 (zs.getD i 0)) from fun u hu i hi => by
    obtain ⟨y, hy, hc⟩ := hu.f.row.cell i hi
    cases hy; exact hc)
  clear h hlen g hx hVi hW hV
  go_enter Try.func128, Try.ntmps128
  go_upto_region 1 with fail
  try rw [HW.out]
  go_wp2_with fail
  go_loopw [6] (fun s6 wx => ∃ k : Nat, s6 = .int .i64 (k : Int) ∧ k ≤ n ∧ Hid (∀ j, j < k → zs.getD j 0 < x) ∧ Hid (BB w (some q) n cap p inc zs wx)) (fun s6 _ => n - (intOf s6).toNat)
  case atStart => exact ⟨0, rfl, by omega, Lib.hid (fun j hj => absurd hj (Nat.not_lt_zero _)), T0⟩
  case round =>
    clear T0
    obtain ⟨k, rfl, hk, HS, T1⟩ := hrel
    obtain ⟨wk, rfl⟩ : ∃ u : World, u = wr := ⟨_, rfl⟩
    obtain ⟨c0, c1, c2, f0, f1, f2⟩ := T1.out.f.box
    by_cases hlt : k < n
    · have hlt' : (k : Int) < (n : Int) := by omega
      obtain ⟨y, hy⟩ : ∃ y, zs.getD k 0 = y := ⟨_, rfl⟩
      have HY := Lib.hid hy
      have cy : wk.cell? (q.add k) = some (.int .i64 y) := by rw [← hy]; exact HC.out _ T1.out k hlt
      clear hy
      by_cases hxy : x ≤ y
      · have HF := Lib.hid (show GivesFirst (eC zs p inc) V w (.returned (.tuple #[.int .i64 (k : Nat), .bool true])) wk from ⟨true, k, rfl, T1.out.below, first_head G.out HX.out.2 (by have := HL.out; omega) (by rw [HX.out.1, HY.out]; exact hxy) (fun t ht => by rw [HX.out.1]; exact HS.out t ht), by omega⟩)
        have d1 : decide (x ≤ y) = true := decide_eq_true hxy
        go_wp2_with fail
        go_ret2
        exact HF.out
      · have d1 : decide (x ≤ y) = false := decide_eq_false hxy
        go_wp2_with fail
        go_roundw
        case rel => exact ⟨k + 1, by go_num, by omega, Lib.hid (fun j hj => by
          by_cases e : j = k
          · subst e; rw [HY.out]; omega
          · exact HS.out j (by omega)), T1⟩
        case measure => simp [intOf]; omega
    · have hlt' : ¬ (k : Int) < (n : Int) := by omega
      obtain rfl : k = n := by omega
      have HLS := Lib.hid (show zs.getD (zs.length - 1) 0 < x by rw [HL.out]; exact HS.out _ (by omega))
      by_cases hnone : inc = 0 ∨ x = 4611686018427387904
      · have HF := Lib.hid (show GivesFirst (eC zs p inc) V w (.returned (.tuple #[.int .i64 0, .bool false])) wk from ⟨false, 0, rfl, T1.out.below, first_none G.out HX.out.2 (by rw [HX.out.1]; exact HLS.out) (by
          rcases hnone with h | h
          · exact .inr h
          · left
            have := HX.out.1
            cases V with
            | none => rfl
            | some v => have h3 := HX.out.2 v rfl; have : enc (some v) = v := rfl; unfold infV at h3; omega), by decide⟩)
        by_cases hic : inc = 0
        · subst hic
          go_wp2_with fail
          go_ret2
          exact HF.out
        · obtain rfl : x = 4611686018427387904 := by rcases hnone with h | h; exact absurd h hic; exact h
          have d3 : (inc == 0) = false := by simpa using hic
          go_wp2_with fail
          go_ret2
          exact HF.out
      · have d2 : (x == 4611686018427387904) = false := by
          have : ¬ x = 4611686018427387904 := fun h => hnone (.inr h)
          simpa using this
        have hic : ¬ inc = 0 := fun h => hnone (.inl h)
        have d3 : (inc == 0) = false := by simpa using hic
        have hvs : V = some x ∧ x ≤ 1125899906842624 := by
          have h1 := HX.out.1
          cases V with
          | none => exact absurd h1.symm (fun h => hnone (.inr h))
          | some v => cases h1; exact ⟨rfl, (HV.out _ rfl).2⟩
        have hx50 := hvs.2
        have HVS := Lib.hid hvs.1
        have HALL := Lib.hid (show ∀ i, i < zs.length → zs.getD i 0 < x from fun i hi => HS.out i (by have := HL.out; omega))
        have hinf : ¬ InfC zs := fun hi => by
          have h1 : zs.getD (zs.length - 1) 0 = infV := hi
          have h2 := HLS.out
          unfold infV at h1; omega
        have HIF := Lib.hid hinf
        obtain ⟨s, hs⟩ : ∃ s : Nat, k - p = s := ⟨_, rfl⟩
        have hsi : (k : Int) - (p : Int) = (s : Int) := by omega
        have hsw : IntKind.i64.wrap (s : Int) = (s : Int) := IntWalk.i64_in _ ⟨by omega, by omega⟩
        have hsn : s + p = k := by omega
        clear hnone hvs hinf hs
        go_wp2_with fail
        clear c0 c1 c2 f0 f1 f2
        go_loopw [7, 8] (fun s7 s8 wx => ∃ (T : Int) (j : Nat), s7 = .int .i64 T ∧ s8 = .int .i64 ((s + j : Nat) : Int) ∧ j ≤ p ∧ (-1 ≤ T ∧ T ≤ 144115188075855872) ∧ Hid (MinTo zs p inc x j T) ∧ Hid (BB w (some q) k cap p inc zs wx)) (fun _ s8 _ => k - (intOf s8).toNat)
        case atStart => exact ⟨-1, 0, rfl, by go_num, by omega, by omega, Lib.hid (.inl ⟨rfl, rfl⟩), T1⟩
        case round =>
          clear T1
          obtain ⟨T, j, rfl, rfl, hj, hT, HM, T2⟩ := hrel
          obtain ⟨wj, rfl⟩ : ∃ u : World, u = wr := ⟨_, rfl⟩
          obtain ⟨c0, c1, c2, f0, f1, f2⟩ := T2.out.f.box
          obtain ⟨l, hl⟩ : ∃ l, s + j = l := ⟨_, rfl⟩
          rw [hl]
          by_cases hjp : j < p
          · have hlt2 : (l : Int) < (k : Int) := by omega
            have hlk : l < k := by omega
            obtain ⟨y, hy⟩ : ∃ y, zs.getD l 0 = y := ⟨_, rfl⟩
            have cy : wj.cell? (q.add l) = some (.int .i64 y) := by rw [← hy]; exact HC.out _ T2.out l hlk
            have hcb := cand_bd G.out hx50 (by omega) HALL.out hjp
            rw [HL.out, show k - p + j = l by omega, hy] at hcb
            obtain ⟨d, hd⟩ : ∃ d, (x - y - 1) / inc = d := ⟨_, rfl⟩
            rw [hd] at hcb
            obtain ⟨m, hm⟩ : ∃ m, (candT zs p inc x j : Nat) = m := ⟨_, rfl⟩
            rw [hm] at hcb
            obtain ⟨e0, e1, e2, e3, e4, e5⟩ := hcb
            have w1 : IntKind.i64.wrap (x - y) = x - y := IntWalk.i64_in _ ⟨by omega, by omega⟩
            have w2 : IntKind.i64.wrap (x - y - 1) = x - y - 1 := IntWalk.i64_in _ ⟨by omega, by omega⟩
            have w3 : IntKind.i64.wrap d = d := IntWalk.i64_in _ ⟨by omega, by omega⟩
            obtain ⟨d1, hd1⟩ : ∃ d1, d + 1 = d1 := ⟨_, rfl⟩
            have w4 : IntKind.i64.wrap d1 = d1 := IntWalk.i64_in _ ⟨by omega, by omega⟩
            rw [hd1] at e4
            obtain ⟨P, hP⟩ : ∃ P, d1 * (p : Int) = P := ⟨_, rfl⟩
            rw [hP] at e4
            have e6 : (l : Int) + P = (m : Int) := by omega
            have e7 : 0 ≤ P := by rw [← hP]; exact Int.mul_nonneg (by omega) (by omega)
            have w5 : IntKind.i64.wrap P = P := IntWalk.i64_in _ ⟨by omega, by omega⟩
            have w6 : IntKind.i64.wrap (m : Int) = (m : Int) := IntWalk.i64_in _ ⟨by omega, by omega⟩
            have q1 : ¬ inc = 0 := hic
            have q2 : 0 ≤ x - y - 1 := by omega
            have q3 : 0 < inc := by omega
            have HMM := Lib.hid hm
            have HLL := Lib.hid hl
            clear hy hm hl e4
            go_upto_region 12 with fail
            go_quiet (fail)
            generalize hwd : wj.drewN _ = w4
            have S2 := Lib.hid (show BB w (some q) k cap p inc zs w4 from by rw [← hwd]; exact T2.out.call ((Below.refl _ _).drewN _))
            clear hwd T2 c0 c1 c2 f0 f1 f2 cy
            obtain ⟨c0, c1, c2, f0, f1, f2⟩ := S2.out.f.box
            by_cases hm1 : T < 0 ∨ (m : Int) < T
            · have HN := Lib.hid (show MinTo zs p inc x (j + 1) (m : Int) by
                have := minTo_more HM.out (by rw [HMM.out]; exact hm1)
                rwa [HMM.out] at this)
              by_cases hT0 : T < 0
              · have d8 : decide (T < 0) = true := decide_eq_true hT0
                go_wp2_with fail
                go_roundw
                case rel => exact ⟨(m : Int), j + 1, rfl, by rw [← HLL.out]; go_num, by omega, by omega, HN, S2⟩
                case measure => simp [intOf]; omega
              · have d8 : decide (T < 0) = false := decide_eq_false hT0
                have hm2 : (m : Int) < T := by omega
                have d9 : decide ((m : Int) < T) = true := decide_eq_true hm2
                go_wp2_with fail
                go_roundw
                case rel => exact ⟨(m : Int), j + 1, rfl, by rw [← HLL.out]; go_num, by omega, by omega, HN, S2⟩
                case measure => simp [intOf]; omega
            · have hT0 : ¬ T < 0 := fun h => hm1 (.inl h)
              have hm2 : ¬ (m : Int) < T := fun h => hm1 (.inr h)
              have d8 : decide (T < 0) = false := decide_eq_false hT0
              have d9 : decide ((m : Int) < T) = false := decide_eq_false hm2
              have HN := Lib.hid (show MinTo zs p inc x (j + 1) T from minTo_same HM.out (by rw [HMM.out]; exact hm1))
              go_wp2_with fail
              go_roundw
              case rel => exact ⟨T, j + 1, rfl, by rw [← HLL.out]; go_num, by omega, by omega, HN, S2⟩
              case measure => simp [intOf]; omega
          · obtain rfl : j = p := by omega
            have hlk : l = k := by omega
            subst hlk
            have hlt2 : ¬ (l : Int) < (l : Int) := by omega
            obtain ⟨X, rfl, HFX⟩ := cand_first G.out HIF.out (by omega) HALL.out HM.out
            have HF := Lib.hid (show GivesFirst (eC zs j inc) V w (.returned (.tuple #[.int .i64 (X : Nat), .bool true])) wj from ⟨true, X, rfl, T2.out.below, by rw [HVS.out]; exact HFX, by omega⟩)
            clear HFX
            go_wp2_with fail
            go_ret2
            exact HF.out

end Go.Proofs.Ytjjaaknjdmijbaa

namespace Go.Proofs.Ytjjaaknjdmijbaa
open Go.RowKit
set_option linter.unusedSimpArgs false
set_option linter.unusedVariables false

set_option maxRecDepth 100000 in
set_option maxHeartbeats 3200000 in
theorem rgrows10 (a1 : Option Addr) (n1 cap1 : Nat) (z1 : List Int) (p1 : Nat) (i1 : Int) (g1 : Good z1 p1 i1) (a2 : Option Addr) (n2 cap2 : Nat) (z2 : List Int) (p2 : Nat) (i2 : Int) (g2 : Good z2 p2 i2) (L : Nat) (hL : L ≤ 120) (f1 : ¬ InfC z1) (f2 : ¬ InfC z2) (b : Bool) (hb : b = true ↔ growI z2 p2 i2 L < growI z1 p1 i1 L) (w : World) (h1 : RowZ w a1 n1 cap1 z1) (h2 : RowZ w a2 n2 cap2 z2) :
    Calls Try.prog 126 #[curV a1 n1 cap1 p1 i1, curV a2 n2 cap2 p2 i2, .int .i64 L] w (Says (.bool b) w) := by
  obtain ⟨W, hW⟩ : ∃ W, (w.alloc (.cells #[.slice a1 n1 cap1, .int .i64 p1, .int .i64 i1] 24)).alloc (.cells #[.slice a2 n2 cap2, .int .i64 p2, .int .i64 i2] 24) = W := ⟨_, rfl⟩
  have T0 := Lib.hid (c2_new h1 h2 hW)
  have HW := Lib.hid hW
  obtain ⟨k1, hk1⟩ : ∃ k, L / p1 = k := ⟨_, rfl⟩
  obtain ⟨k2, hk2⟩ : ∃ k, L / p2 = k := ⟨_, rfl⟩
  obtain ⟨x1, hx1⟩ : ∃ x, i1 * (k1 : Int) = x := ⟨_, rfl⟩
  obtain ⟨x2, hx2⟩ : ∃ x, i2 * (k2 : Int) = x := ⟨_, rfl⟩
  have B1 := Lib.hid (show 0 ≤ x1 ∧ x1 ≤ 128849018880 by have := grow_bd g1 hL; rw [hk1, hx1] at this; exact this)
  have B2 := Lib.hid (show 0 ≤ x2 ∧ x2 ≤ 128849018880 by have := grow_bd g2 hL; rw [hk2, hx2] at this; exact this)
  have q1 := g1.p1
  have q2 := g2.p1
  have HK := Lib.hid (show (((L : Int).tdiv (p1 : Int) = (k1 : Int) ∧ (L : Int) / (p1 : Int) = (k1 : Int)) ∧ ((L : Int).tdiv (p2 : Int) = (k2 : Int) ∧ (L : Int) / (p2 : Int) = (k2 : Int))) from
    ⟨⟨by rw [Int.tdiv_eq_ediv_of_nonneg (by omega), ← hk1]; exact Int.natCast_ediv _ _, by rw [← hk1]; exact (Int.natCast_ediv _ _).symm⟩, by rw [Int.tdiv_eq_ediv_of_nonneg (by omega), ← hk2]; exact Int.natCast_ediv _ _, by rw [← hk2]; exact (Int.natCast_ediv _ _).symm⟩)
  have HKW := Lib.hid (show (IntKind.i64.wrap (i1 * (k1 : Int)) = x1 ∧ IntKind.i64.wrap x1 = x1 ∧ IntKind.i64.wrap (k1 : Int) = (k1 : Int)) ∧ (IntKind.i64.wrap (i2 * (k2 : Int)) = x2 ∧ IntKind.i64.wrap x2 = x2 ∧ IntKind.i64.wrap (k2 : Int) = (k2 : Int)) from by
    have := B1.out; have := B2.out
    have : k1 ≤ 120 := by rw [← hk1]; exact Nat.le_trans (Nat.div_le_self _ _) hL
    have : k2 ≤ 120 := by rw [← hk2]; exact Nat.le_trans (Nat.div_le_self _ _) hL
    rw [hx1, hx2]
    have e1 : IntKind.i64.wrap x1 = x1 := IntWalk.i64_in _ ⟨by omega, by omega⟩
    have e2 : IntKind.i64.wrap x2 = x2 := IntWalk.i64_in _ ⟨by omega, by omega⟩
    exact ⟨⟨e1, e1, IntWalk.i64_in _ ⟨by omega, by omega⟩⟩, e2, e2, IntWalk.i64_in _ ⟨by omega, by omega⟩⟩)
  have eb : decide (0 < x1 - x2) = b := by
    have k : b = true ↔ 0 < x1 - x2 := by
      rw [hb, growI_mul f1, growI_mul f2, hk1, hk2, hx1, hx2]
      omega
    cases b with
    | true => exact decide_eq_true (k.1 rfl)
    | false => exact decide_eq_false fun h => by have := k.2 h; cases this
  have HEB := Lib.hid eb
  clear hW hk1 hk2 hx1 hx2 hb f1 f2 g1 g2 h1 h2 eb
  obtain ⟨c0, c1, c2, c3, c4, c5⟩ := T0.out.f.box
  obtain ⟨d0, d1, d2, d3, d4, d5⟩ := T0.out.g.box
  go_enter Try.func126, Try.ntmps126
  go_upto_region 1 with fail
  try rw [HW.out]
  go_wp2_with fail
  clear c0 c1 c2 c3 c4 c5 d0 d1 d2 d3 d4 d5
  have r1 := B1.out
  have r2 := B2.out
  refine (rslopes a1 n1 cap1 p1 i1 a2 n2 cap2 p2 i2 L k1 k2 x1 x2 HK.out.1.1 (by omega) (by omega) HK.out.1.2 HKW.out.1.1 HKW.out.1.2.1 HKW.out.1.2.2 HK.out.2.1 (by omega) (by omega) HK.out.2.2 HKW.out.2.1 HKW.out.2.2.1 HKW.out.2.2.2 r1 r2 _).mono ?_
  rintro e w9 ⟨rfl, hb⟩
  have T9 := Lib.hid (T0.out.call hb)
  clear hb r1 r2
  go_wp2_with fail
  exact bodyPost_ret (v := .bool b) (by simp [results, Try.results126, go_sem, HEB.out]; first | done | exact HEB.out | simpa using HEB.out) rfl ⟨rfl, T9.out.below⟩

set_option maxRecDepth 100000 in
set_option maxHeartbeats 3200000 in
theorem rwindow10 (a1 : Option Addr) (n1 cap1 : Nat) (z1 : List Int) (p1 : Nat) (i1 : Int) (g1 : Good z1 p1 i1) (a2 : Option Addr) (n2 cap2 : Nat) (z2 : List Int) (p2 : Nat) (i2 : Int) (g2 : Good z2 p2 i2) (L : Nat) (N : Nat) (hN : max n1 n2 + L = N) (hL : L ≤ 120) (w : World) (h1 : RowZ w a1 n1 cap1 z1) (h2 : RowZ w a2 n2 cap2 z2) :
    Calls Try.prog 127 #[curV a1 n1 cap1 p1 i1, curV a2 n2 cap2 p2 i2, .int .i64 L] w (Says (.int .i64 N) w) := by
  obtain ⟨W, hW⟩ : ∃ W, (w.alloc (.cells #[.slice a1 n1 cap1, .int .i64 p1, .int .i64 i1] 24)).alloc (.cells #[.slice a2 n2 cap2, .int .i64 p2, .int .i64 i2] 24) = W := ⟨_, rfl⟩
  have T0 := Lib.hid (c2_new h1 h2 hW)
  have HW := Lib.hid hW
  have b1 : n1 ≤ 400 := by have := h1.len; have := g1.few; omega
  have b2 : n2 ≤ 400 := by have := h2.len; have := g2.few; omega
  have hNw : IntKind.i64.wrap (N : Int) = (N : Int) := IntWalk.i64_in _ ⟨by omega, by omega⟩
  obtain ⟨c0, c1, c2, c3, c4, c5⟩ := T0.out.f.box
  obtain ⟨d0, d1, d2, d3, d4, d5⟩ := T0.out.g.box
  by_cases hlt : n1 < n2
  · have t1 : (n1 : Int) < (n2 : Int) := by omega
    have hml : (n2 : Int) + (L : Int) = (N : Int) := by omega
    clear hW h1 h2 g1 g2 hN
    go_enter Try.func127, Try.ntmps127
    go_upto_region 1 with fail
    try rw [HW.out]
    go_wp2_with fail
    exact bodyPost_ret (v := .int .i64 N) (by simp [results, Try.results127, go_sem, hml, hNw]) rfl ⟨rfl, T0.out.below⟩
  · have t1 : ¬ (n1 : Int) < (n2 : Int) := by omega
    have hml : (n1 : Int) + (L : Int) = (N : Int) := by omega
    clear hW h1 h2 g1 g2 hN
    go_enter Try.func127, Try.ntmps127
    go_upto_region 1 with fail
    try rw [HW.out]
    go_wp2_with fail
    exact bodyPost_ret (v := .int .i64 N) (by simp [results, Try.results127, go_sem, hml, hNw]) rfl ⟨rfl, T0.out.below⟩

end Go.Proofs.Ytjjaaknjdmijbaa
