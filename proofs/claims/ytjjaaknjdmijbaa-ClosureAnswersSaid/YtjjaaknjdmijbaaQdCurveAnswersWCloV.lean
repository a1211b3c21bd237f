/- The walk of CurveAnswers. By the verifier's side. -/
import Derived.Test.YtjjaaknjdmijbaaQdBentE
import Derived.Test.YtjjaaknjdmijbaaQdRefU
import Derived.Test.YtjjaaknjdmijbaaQdRCo1ToDecV
namespace Go.Proofs.Ytjjaaknjdmijbaa
open Go.RowKit
set_option linter.unusedSimpArgs false

/-- A curve that stands in a world, none of its cells in the reader's block. -/
structure CurIn (w : World) (b : Nat) (a : Option Addr) (n cap : Nat) (zs : List Int) (p inc : Int) : Prop where
  row : RowZ w a n cap zs
  ip : In64 p
  ii : In64 inc
  far : 1 ≤ n → ∀ x, a = some x → ¬ x.block = b
theorem RowZ.apart2 {w w' : World} {a : Option Addr} {n cap b : Nat} {zs : List Int} (h : RowZ w a n cap zs) (ha : Apart b w w') (hx : 1 ≤ n → ∀ x, a = some x → ¬ x.block = b) : RowZ w' a n cap zs := by
  rcases Nat.eq_zero_or_pos n with rfl | hn
  · exact ⟨h.len, h.le, h.sm, h.cm, fun i hi => absurd hi (Nat.not_lt_zero _), fun i hi => absurd hi (Nat.not_lt_zero _)⟩
  · exact h.apart ha (hx hn)
/-- What stands below a block that is made later is not in it. -/
theorem CurIn.old {w : World} {a : Option Addr} {n cap : Nat} {zs : List Int} {p inc : Int} (h : RowZ w a n cap zs) (hp : In64 p) (hi : In64 inc) {b : Nat} (hb : w.heap.size ≤ b) : CurIn w b a n cap zs p inc :=
  ⟨h, hp, hi, fun hn x hx => by have := row_lt h hn x hx; omega⟩
section
variable {w u : World} {b : Nat} {a : Option Addr} {n cap : Nat} {zs : List Int} {p inc : Int}
theorem CurIn.apart (h : CurIn w b a n cap zs p inc) (ha : Apart b w u) : CurIn u b a n cap zs p inc := ⟨h.row.apart2 ha h.far, h.ip, h.ii, h.far⟩
theorem CurIn.below (h : CurIn w b a n cap zs p inc) (hb : Below w.heap.size w u) : CurIn u b a n cap zs p inc := ⟨h.row.under hb, h.ip, h.ii, h.far⟩
end

/-- A list of curves in one block. -/
def Curs (w : World) (b B N : Nat) : Prop :=
  ∀ k, k < N → ∃ (a : Option Addr) (n cap : Nat) (zs : List Int) (p inc : Int), CurIn w b a n cap zs p inc ∧ w.cell? ⟨B, k * 3, none⟩ = some (.slice a n cap) ∧ w.cell? ⟨B, k * 3 + 1, none⟩ = some (.int .i64 p) ∧ w.cell? ⟨B, k * 3 + 2, none⟩ = some (.int .i64 inc)
theorem Curs.apart {w u : World} {b B N : Nat} (h : Curs w b B N) (ha : Apart b w u) (hB : ¬ B = b) : Curs u b B N := fun k hk => by
  obtain ⟨a, n, cap, zs, p, inc, h1, h2, h3, h4⟩ := h k hk
  exact ⟨a, n, cap, zs, p, inc, h1.apart ha, (World.cell?_of_block (ha.block _ (lt_of_cell h2) hB)).trans h2, (World.cell?_of_block (ha.block _ (lt_of_cell h3) hB)).trans h3, (World.cell?_of_block (ha.block _ (lt_of_cell h4) hB)).trans h4⟩

section
variable {w6 u v : World} {b : Nat} {ra : Option Addr} {rn rc : Nat} {F1 : Nat} {x0 x1 x2 : Value} {F2 : Nat} {y0 y1 y2 : Value} {F3 : Nat} {z0 z1 z2 : Value} {F4 : Nat} {v0 v1 v2 : Value}
end
/-- A block of two cells. -/
structure Cur2 (w : World) (b : Nat) (x0 x1 : Value) : Prop where
  c0 : w.cell? ⟨b, 0, none⟩ = some x0
  c1 : w.cell? ⟨b, 1, none⟩ = some x1
theorem cur2_below {w w' : World} {b : Nat} {x0 x1 : Value} (h : Cur2 w b x0 x1) (hb : Below w.heap.size w w') : Cur2 w' b x0 x1 :=
  ⟨(hb.cell (lt_of_cell h.c0)).trans h.c0, (hb.cell (lt_of_cell h.c1)).trans h.c1⟩
theorem Cur2.alloc {w : World} {b : Nat} {x0 x1 : Value} (h : Cur2 w b x0 x1) (o : Obj) : Cur2 (w.alloc o) b x0 x1 := cur2_below h ((Below.refl _ _).alloc (Nat.le_refl _) o)
theorem sameB_self (zs : List Int) (p inc : Int) : sameB zs p inc zs p inc = true := by unfold sameB; simp
theorem cell_new {w : World} {cs : Array Value} {t : TypeId} {i : Nat} {v : Value} (h : cs[i]? = some v) : (w.alloc (.cells cs t)).cell? ⟨w.heap.size, i, none⟩ = some v := by
  rw [cell_of_row _ w.heap.size i cs t (0, 0) (heap_alloc_new w _)]; exact h
section
variable {w : World} {b : Nat} {a1 a2 a3 a4 a5 : Option Addr} {n1 n2 n3 n4 n5 c1 c2 c3 c4 c5 : Nat} {z1 z2 z3 z4 z5 : List Int} {p1 p2 p3 p4 p5 i1 i2 i3 i4 i5 : Int} {t : TypeId}
end
/-- What Bent hands back stands. -/
theorem bent_in {w w' : World} {b : Nat} {a' : Option Addr} {n' cap' : Nat} {zs : List Int} {p inc : Int} (hbl : b < w.heap.size) (hr : RowZ w' a' n' cap' zs) (hp : -2000 ≤ p ∧ p ≤ 2000) (hi : -4294967296 ≤ inc ∧ inc ≤ 4294967296) (hx : ∀ x, a' = some x → w.heap.size ≤ x.block) : CurIn w' b a' n' cap' zs p inc :=
  ⟨hr, ⟨by omega, by omega⟩, ⟨by omega, by omega⟩, fun _ x h => by have := hx x h; omega⟩
end Go.Proofs.Ytjjaaknjdmijbaa

namespace Go.Proofs.Ytjjaaknjdmijbaa
open Go.RowKit
set_option linter.unusedSimpArgs false
set_option linter.unusedVariables false

/-- One of a list's curves: its cells, and, if it is short, its values. -/
def Cl9 (w : World) (B k : Nat) (S : Nat → Prop) : Prop :=
  ∃ (xa : Option Addr) (xn xc : Nat) (zx : List Int) (xp xi : Int), w.cell? ⟨B, k * 3, none⟩ = some (.slice xa xn xc) ∧ w.cell? ⟨B, k * 3 + 1, none⟩ = some (.int .i64 xp) ∧ w.cell? ⟨B, k * 3 + 2, none⟩ = some (.int .i64 xi) ∧ (xn ≤ 800 → RowZ w xa xn xc zx) ∧ In64 xp ∧ In64 xi ∧ (xn ≤ 800 → S k)
theorem Cl9.below {w u : World} {B k : Nat} {S : Nat → Prop} (h : Cl9 w B k S) (hb : Below w.heap.size w u) : Cl9 u B k S := by
  obtain ⟨xa, xn, xc, zx, xp, xi, h1, h2, h3, h4, h5, h6, h7⟩ := h
  exact ⟨xa, xn, xc, zx, xp, xi, (hb.cell (lt_of_cell h1)).trans h1, (hb.cell (lt_of_cell h2)).trans h2, (hb.cell (lt_of_cell h3)).trans h3, fun q => (h4 q).under hb, h5, h6, h7⟩
def GivesShort9 (S : Nat → Prop) (w : World) (e : Ending) (w' : World) : Prop :=
  ∃ b : Bool, e = .returned (.bool b) ∧ Below w.heap.size w w' ∧ (b = true → S 0)

set_option maxRecDepth 100000 in
set_option maxHeartbeats 3200000 in
theorem short9 (B : Nat) (S : Nat → Prop) (w : World) (h : ∀ k, k < 1 → Cl9 w B k S) :
    Calls Try.prog 40 #[.slice (some ⟨B, 0, none⟩) 1 1] w (GivesShort9 S w) := by
  have H := Lib.hid h
  clear h
  go_enter Try.func40, Try.ntmps40
  go_wp2_with fail
  go_loopw [7] (fun s7 wx => ∃ k : Nat, s7 = .int .i64 (k : Int) ∧ k ≤ 1 ∧ Hid (Below w.heap.size w wx) ∧ Hid (∀ j, j < k → S j)) (fun s7 _ => 1 - (intOf s7).toNat)
  case atStart => exact ⟨0, rfl, by omega, Lib.hid (Below.refl _ _), Lib.hid (fun j hj => absurd hj (Nat.not_lt_zero _))⟩
  case round =>
    obtain ⟨k, rfl, hk2, HL, HS⟩ := hrel
    obtain ⟨wq, rfl⟩ : ∃ u : World, u = wr := ⟨_, rfl⟩
    by_cases hk : k < 1
    · obtain ⟨xa, xn, xc, zx, xp, xi, hc0, hc1, hc2, hrow, hip, hii, hsm⟩ := (H.out k hk).below HL.out
      have q0 : (0 : Int) ≤ (k : Int) := by omega
      have q1 : (k : Int) < 1 := by omega
      have XI := Lib.hid (And.intro hip hii)
      have HROW := Lib.hid hrow
      have HSM := Lib.hid hsm
      obtain ⟨wA, hA⟩ : ∃ u, wq.alloc (.cells #[.slice xa xn xc, .int .i64 xp, .int .i64 xi] 24) = u := ⟨_, rfl⟩
      have V1 := Lib.hid (show Cur3 wA wq.heap.size (.slice xa xn xc) (.int .i64 xp) (.int .i64 xi) by rw [← hA]; exact Cur3.new wq (.slice xa xn xc) (.int .i64 xp) (.int .i64 xi) 24)
      have hbA : Below wq.heap.size wq wA := by rw [← hA]; exact (Below.refl _ _).alloc (Nat.le_refl _) _
      have LA := Lib.hid (HL.out.trans (hbA.mono HL.out.size))
      have RA := Lib.hid (fun q => (HROW.out q).under hbA)
      have HA := Lib.hid hA
      have hNEXT : xn ≤ 800 → ∀ j, j < k + 1 → S j := fun q j hj => by
        by_cases e : j = k
        · subst e; exact HSM.out q
        · exact HS.out j (by omega)
      have HN := Lib.hid hNEXT
      clear hip hii hrow hsm hA hbA hNEXT
      go_upto_region 4 with fail
      try rw [HA.out]
      clear hc0 hc1 hc2
      obtain ⟨c0, c1, c2, f0, f1, f2⟩ := V1.out
      by_cases h60 : 70 < xn
      · have t60 : (70 : Int) < (xn : Int) := by omega
        by_cases h800 : xn ≤ 800
        · have R1 := Lib.hid (RA.out h800)
          obtain ⟨ok, hok⟩ : ∃ ok, okC zx xp xi = ok := ⟨_, rfl⟩
          have HOK := Lib.hid hok
          have H8 := Lib.hid h800
          clear hok h60 h800
          go_wp2_with fail
          refine (rvalid_any xa xn xc zx xp xi XI.out.1 XI.out.2 ok HOK.out _ R1.out).mono ?_
          rintro e w1 ⟨rfl, hb⟩
          have L1 := Lib.hid (LA.out.trans (hb.mono LA.out.size))
          have V2 := Lib.hid (V1.out.below hb)
          clear hb c0 c1 c2 f0 f1 f2
          obtain ⟨c0, c1, c2, f0, f1, f2⟩ := V2.out
          cases ok with
          | true =>
            go_wp2_with fail
            go_ret
            exact ⟨false, rfl, L1.out, fun e => by cases e⟩
          | false =>
            go_wp2_with fail
            refine (small_any xa xn xc xp xi true (decide_eq_true H8.out) _).mono ?_
            rintro e w2 ⟨rfl, hb⟩
            have L2 := Lib.hid (L1.out.trans (hb.mono L1.out.size))
            clear hb
            go_wp2_with fail
            go_roundw
            case rel => exact ⟨k + 1, by go_num, by omega, L2, Lib.hid (HN.out H8.out)⟩
            case measure => simp [intOf]; omega
        · have H8 := Lib.hid h800
          have H4 := Lib.hid (show 400 < xn by omega)
          clear h60 h800
          go_wp2_with fail
          refine (rvalid_long xa xn xc xp xi H4.out _).mono ?_
          rintro e w1 ⟨rfl, hb⟩
          have L1 := Lib.hid (LA.out.trans (hb.mono LA.out.size))
          have V2 := Lib.hid (V1.out.below hb)
          clear hb c0 c1 c2 f0 f1 f2
          obtain ⟨c0, c1, c2, f0, f1, f2⟩ := V2.out
          go_wp2_with fail
          refine (small_any xa xn xc xp xi false (decide_eq_false H8.out) _).mono ?_
          rintro e w2 ⟨rfl, hb⟩
          have L2 := Lib.hid (L1.out.trans (hb.mono L1.out.size))
          clear hb
          go_wp2_with fail
          go_ret
          exact ⟨false, rfl, L2.out, fun e => by cases e⟩
      · have t60 : ¬ (70 : Int) < (xn : Int) := by omega
        have H8 := Lib.hid (show xn ≤ 800 by omega)
        clear h60
        go_wp2_with fail
        refine (small_any xa xn xc xp xi true (decide_eq_true H8.out) _).mono ?_
        rintro e w2 ⟨rfl, hb⟩
        have L2 := Lib.hid (LA.out.trans (hb.mono LA.out.size))
        clear hb
        go_wp2_with fail
        go_roundw
        case rel => exact ⟨k + 1, by go_num, by omega, L2, Lib.hid (HN.out H8.out)⟩
        case measure => simp [intOf]; omega
    · obtain rfl : k = 1 := by omega
      go_wp2_with fail
      go_ret
      exact ⟨true, rfl, HL.out, fun _ => HS.out 0 (by omega)⟩

end Go.Proofs.Ytjjaaknjdmijbaa
