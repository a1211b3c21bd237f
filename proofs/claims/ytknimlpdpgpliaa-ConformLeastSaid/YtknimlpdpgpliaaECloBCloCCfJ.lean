/- The pair of a closure: whether a value is attained, the least parts, a list of parts is checked, sub-additivity. By the verifier's side. -/
import Derived.Test.YtknimlpdpgpliaaEDecA
import Derived.Test.YtknimlpdpgpliaaECloMCloP
import Derived.Deep.LoopGhost
import Derived.BigQuiet
namespace Go.Proofs.Ytknimlpdpgpliaa
open Go.RowKit
set_option linter.unusedSimpArgs false
set_option linter.unusedVariables false

/-- Block b holds a pair, and may be written. -/
structure P6 (w : World) (b : Nat) (x0 x1 x2 y0 y1 y2 : Value) : Prop where
  lo : Cur3 w b x0 x1 x2
  c3 : w.cell? ⟨b, 3, none⟩ = some y0
  c4 : w.cell? ⟨b, 4, none⟩ = some y1
  c5 : w.cell? ⟨b, 5, none⟩ = some y2
  f3 : w.frozen? ⟨b, 3, none⟩ = false
  f4 : w.frozen? ⟨b, 4, none⟩ = false
  f5 : w.frozen? ⟨b, 5, none⟩ = false
section
variable {w w' : World} {b : Nat} {x0 x1 x2 y0 y1 y2 : Value}
theorem P6.lt (h : P6 w b x0 x1 x2 y0 y1 y2) : b < w.heap.size := h.lo.lt
theorem P6.below (h : P6 w b x0 x1 x2 y0 y1 y2) (hb : Below w.heap.size w w') : P6 w' b x0 x1 x2 y0 y1 y2 :=
  ⟨h.lo.below hb, (hb.cell (p := ⟨b, 3, none⟩) h.lt).trans h.c3, (hb.cell (p := ⟨b, 4, none⟩) h.lt).trans h.c4, (hb.cell (p := ⟨b, 5, none⟩) h.lt).trans h.c5, (hb.frozen (p := ⟨b, 3, none⟩) h.lt).trans h.f3, (hb.frozen (p := ⟨b, 4, none⟩) h.lt).trans h.f4, (hb.frozen (p := ⟨b, 5, none⟩) h.lt).trans h.f5⟩
theorem P6.other (h : P6 w b x0 x1 x2 y0 y1 y2) {q : Nat} (hq : ¬ b = q) (i : Nat) (v : Value) : P6 (w.setCell ⟨q, i, none⟩ v) b x0 x1 x2 y0 y1 y2 := by
  have hb : (w.setCell ⟨q, i, none⟩ v).heap[b]? = w.heap[b]? := Below.heap_setCell _ _ _ _ hq
  exact ⟨h.lo.other hq i v, (World.cell?_of_block (w := w) (a := ⟨b, 3, none⟩) hb).trans h.c3, (World.cell?_of_block (w := w) (a := ⟨b, 4, none⟩) hb).trans h.c4, (World.cell?_of_block (w := w) (a := ⟨b, 5, none⟩) hb).trans h.c5,
    (World.frozen?_of_block (w := w) (a := ⟨b, 3, none⟩) hb).trans h.f3, (World.frozen?_of_block (w := w) (a := ⟨b, 4, none⟩) hb).trans h.f4, (World.frozen?_of_block (w := w) (a := ⟨b, 5, none⟩) hb).trans h.f5⟩
end

/-- The numbers and places of a pair. -/
structure QV where
  a1 : Option Addr
  n1 : Nat
  cap1 : Nat
  q : Nat
  j : Int
  a2 : Option Addr
  n2 : Nat
  cap2 : Nat
  r : Nat
  k : Int
  A : Nat
  B : Nat
  S : Nat
  L : Nat
  R : Nat
  al : Bool
end Go.Proofs.Ytknimlpdpgpliaa

namespace Go.Proofs.Ytknimlpdpgpliaa
open Go.RowKit
set_option linter.unusedSimpArgs false
set_option linter.unusedVariables false

section
variable {w u v : World} {P : QV} {ys hs : List Int} {V : Nat → Nat} {N lb t k : Nat}
end

/-- What the test of the values says. -/
theorem sub_iff {zs : List Int} {p : Nat} {inc : Int} (g : Good zs p inc) : (∀ s, s < zs.length → ∀ u, u ≤ s → atC zs p inc (s + u) ≤ plI (atC zs p inc s) (atC zs p inc u)) ↔ SubA (eC zs p inc) := by
  have key : ∀ {s u : Nat}, s ≤ 1000 → u ≤ 1000 → (atC zs p inc (s + u) ≤ plI (atC zs p inc s) (atC zs p inc u) ↔ ole (eC zs p inc (s + u)) (oadd (eC zs p inc s) (eC zs p inc u))) := fun {s u} hs hu => by
    rcases eC_cases g (show s + u ≤ 1048576 by omega) with ⟨a1, a2⟩ | ⟨x, a1, a2, a3, a4⟩ <;> rcases eC_cases g (show s ≤ 1048576 by omega) with ⟨b1, b2⟩ | ⟨y, b1, b2, b3, b4⟩ <;> rcases eC_cases g (show u ≤ 1048576 by omega) with ⟨c1, c2⟩ | ⟨z, c1, c2, c3, c4⟩ <;> rw [a1, b1, c1, a2, b2, c2]
    · exact ⟨fun _ => ole_none _, fun _ => by rw [plI_l]; exact Int.le_refl _⟩
    · exact ⟨fun _ => ole_none _, fun _ => by rw [plI_l]; exact Int.le_refl _⟩
    · exact ⟨fun _ => ole_none _, fun _ => by rw [plI_r]; exact Int.le_refl _⟩
    · rw [plI_fin (by unfold infV; omega) (by unfold infV; omega)]
      exact ⟨fun h => by unfold infV at h; omega, fun h => by obtain ⟨_, h, _⟩ := h _ rfl; cases h⟩
    · exact ⟨fun _ => ole_none _, fun _ => by rw [plI_l]; unfold infV; omega⟩
    · exact ⟨fun _ => ole_none _, fun _ => by rw [plI_l]; unfold infV; omega⟩
    · exact ⟨fun _ => ole_none _, fun _ => by rw [plI_r]; unfold infV; omega⟩
    · rw [plI_fin (by unfold infV; omega) (by unfold infV; omega)]
      exact ⟨fun h => ole_some h, fun h => by obtain ⟨_, h, h2⟩ := h _ rfl; cases h; exact h2⟩
  have hf := g.few
  have g1 := g.p1
  have g3 := g.p3
  constructor
  · intro h
    have h2 : ∀ a b, a < zs.length → b < zs.length → ole (eC zs p inc (a + b)) (oadd (eC zs p inc a) (eC zs p inc b)) := fun a b ha hb => by
      rcases Nat.le_total b a with hl | hl
      · exact (key (by omega) (by omega)).1 (h a ha b hl)
      · rw [Nat.add_comm, oadd_comm]; exact (key (by omega) (by omega)).1 (h b hb a hl)
    by_cases hi : InfC zs
    · obtain ⟨rfl, rfl⟩ := g.tailI hi
      exact sub_per (s := zs.length - 1) (p := 1) (c := 0) (by omega) (fun t ht => by rw [eC_late g hi (by omega), eC_late g hi ht]; rfl) fun a b ha hb => h2 a b (by omega) (by omega)
    · exact sub_per (s := zs.length - p) (p := p) (c := inc) g1 (fun t ht => by rw [eC_fin hi, eC_fin hi, g.per hi t ht]; rfl) fun a b ha hb => h2 a b (by omega) (by omega)
  · intro h s hs u hu
    exact (key (by omega) (by omega)).2 (h s u)

/-- While sub-additivity is tested. -/
structure SUB (w : World) (a : Option Addr) (n cap : Nat) (zs : List Int) (p : Nat) (inc : Int) (B : Nat) (u : World) : Prop where
  cl : ClosP u B a n cap zs p inc
  below : Below w.heap.size w u
theorem SUB.call {w u v : World} {a : Option Addr} {n cap : Nat} {zs : List Int} {p : Nat} {inc : Int} {B : Nat} (h : SUB w a n cap zs p inc B u) (hb : Below u.heap.size u v) : SUB w a n cap zs p inc B v := ⟨h.cl.under hb, h.below.trans (hb.mono h.below.size)⟩

set_option maxRecDepth 100000 in
set_option maxHeartbeats 6400000 in
theorem subadd_any (a : Option Addr) (n cap : Nat) (zs : List Int) (p : Nat) (inc : Int) (g : Good zs p inc) (b : Bool) (hb : b = true ↔ SubA (eC zs p inc)) (w : World) (h : RowZ w a n cap zs) :
    Calls Try.prog 116 #[curV a n cap p inc] w (Says (.bool b) w) := by
  rw [← sub_iff g] at hb
  obtain ⟨w1, hw1⟩ : ∃ W, w.alloc (.cells #[.slice a n cap, .int .i64 p, .int .i64 inc] 26) = W := ⟨_, rfl⟩
  have hb1 : Below w.heap.size w w1 := by rw [← hw1]; exact (Below.refl _ _).alloc (Nat.le_refl _) _
  have CB := Lib.hid (show Cur3 w1 w.heap.size (.slice a n cap) (.int .i64 p) (.int .i64 inc) by rw [← hw1]; exact Cur3.new w _ _ _ _)
  have RW := Lib.hid (h.under hb1)
  have HB := Lib.hid hb1
  have G0 := Lib.hid g
  have HW1 := Lib.hid hw1
  have HBB := Lib.hid hb
  have hlen : zs.length = n := h.len
  have hfew : n ≤ 400 := by have := g.few; omega
  have ev : ∀ (args : Array Value) (w : World), (callFunc 152 args).run Try.prog w = .ok (.enter 152 args) w := enters_of Try.func152 (by kernel_rfl) rfl
  clear h g hb1 hw1 hb
  go_enter Try.func116, Try.ntmps116
  go_upto_region 1 with fail
  try rw [HW1.out]
  obtain ⟨c0, c1, c2, f0, f1, f2⟩ := CB.out
  go_wp2_with fail
  refine (pvalues_p a n cap zs p inc G0.out _ RW.out).mono ?_
  rintro e w3 ⟨B, rfl, hb, hlB, hmB, hcl⟩
  have Z0 := Lib.hid (show SUB w a n cap zs p inc B w3 from ⟨hcl, HB.out.trans (hb.mono HB.out.size)⟩)
  clear c0 c1 c2 f0 f1 f2
  obtain ⟨c0, c1, c2, f0, f1, f2⟩ := CB.out.below hb
  clear hb hlB hmB hcl
  go_wp2_with fail
  clear c0 c1 c2 f0 f1 f2 CB RW HB HW1
  go_loopg [11] n (fun g s11 wx => ∃ s : Nat, s + g = n ∧ s11 = .int .i64 s ∧ Hid (∀ s', s' < s → ∀ u, u ≤ s' → atC zs p inc (s' + u) ≤ plI (atC zs p inc s') (atC zs p inc u)) ∧ Hid (SUB w a n cap zs p inc B wx))
  case atStart => exact ⟨0, by omega, by go_num, fun s' h => by omega, Z0⟩
  case round =>
    obtain ⟨s, hsg, rfl, AL, HS⟩ := hrel
    obtain ⟨wk, rfl⟩ : ∃ u : World, u = wr := ⟨_, rfl⟩
    clear Z0
    by_cases hlt : s < n
    · obtain ⟨g, rfl⟩ : ∃ g, gk = g + 1 := ⟨gk - 1, by omega⟩
      have hlti : (s : Int) < (n : Int) := by omega
      obtain ⟨s1, hs1⟩ : ∃ k, s + 1 = k := ⟨_, rfl⟩
      have hs1i : (s : Int) + 1 = (s1 : Int) := by omega
      have hs1w : IntKind.i64.wrap (s1 : Int) = (s1 : Int) := IntWalk.i64_in _ ⟨by omega, by omega⟩
      go_wp2_with fail
      go_loopg [16] s1 (fun g2 s16 wx => ∃ u : Nat, u + g2 = s1 ∧ s16 = .int .i64 u ∧ Hid (∀ u', u' < u → atC zs p inc (s + u') ≤ plI (atC zs p inc s) (atC zs p inc u')) ∧ Hid (SUB w a n cap zs p inc B wx))
      case atStart => exact ⟨0, by omega, by go_num, fun u' h => by omega, HS⟩
      case round =>
        obtain ⟨u, hug, rfl, AU, HT⟩ := hrel
        obtain ⟨wj, rfl⟩ : ∃ u : World, u = wr := ⟨_, rfl⟩
        by_cases hlu : u < s1
        · obtain ⟨g2, rfl⟩ : ∃ g, gk = g + 1 := ⟨gk - 1, by omega⟩
          have hlui : (u : Int) < (s1 : Int) := by omega
          obtain ⟨d, hd⟩ : ∃ k, s + u = k := ⟨_, rfl⟩
          have hdi : (s : Int) + (u : Int) = (d : Int) := by omega
          have hdw : IntKind.i64.wrap (d : Int) = (d : Int) := IntWalk.i64_in _ ⟨by omega, by omega⟩
          obtain ⟨x, hx⟩ : ∃ x, atC zs p inc d = x := ⟨_, rfl⟩
          obtain ⟨y, hy⟩ : ∃ y, atC zs p inc s = y := ⟨_, rfl⟩
          obtain ⟨z, hz⟩ : ∃ z, atC zs p inc u = z := ⟨_, rfl⟩
          have HM := Lib.hid (And.intro (show Mid y by rw [← hy]; exact at_mid2 G0.out (by omega)) (show Mid z by rw [← hz]; exact at_mid2 G0.out (by omega)))
          obtain ⟨pv, hpv⟩ : ∃ pv, plI y z = pv := ⟨_, rfl⟩
          have HX := Lib.hid hx
          have HY := Lib.hid hy
          have HZ := Lib.hid hz
          have HPV := Lib.hid hpv
          have HD := Lib.hid hd
          clear hx hy hz hpv hd
          by_cases hgt : pv < x
          · have t1 : pv < x := hgt
            have t2 : decide (pv < x) = true := decide_eq_true hgt
            have hbf : b = false := by
              cases hbb : b with
              | false => rfl
              | true =>
                exfalso
                have := HBB.out.1 hbb s (by omega) u (by omega)
                rw [HD.out, HX.out, HY.out, HZ.out, HPV.out] at this
                omega
            subst hbf
            go_wp2_with fail
            with_reducible refine (atp_any B a n cap zs p inc d (by omega) _ HT.out.cl).mono ?_
            rintro e u3 ⟨rfl, hd3⟩
            have HT1 := Lib.hid (HT.out.call (below_dr (Below.refl _ _) hd3))
            clear hd3
            rw [HX.out]
            go_wp2_with fail
            with_reducible refine (atp_any B a n cap zs p inc s (by omega) _ HT1.out.cl).mono ?_
            rintro e u4 ⟨rfl, hd3⟩
            have HT2 := Lib.hid (HT1.out.call (below_dr (Below.refl _ _) hd3))
            clear hd3
            rw [HY.out]
            go_wp2_with fail
            with_reducible refine (atp_any B a n cap zs p inc u (by omega) _ HT2.out.cl).mono ?_
            rintro e u5 ⟨rfl, hd3⟩
            have HT3 := Lib.hid (HT2.out.call (below_dr (Below.refl _ _) hd3))
            clear hd3
            rw [HZ.out]
            go_wp2_with fail
            with_reducible refine (pplus_any y z HM.out.1 HM.out.2 _).mono ?_
            rintro e u6 ⟨rfl, rfl⟩
            rw [HPV.out]
            go_wp2_with fail
            go_ret
            exact ⟨rfl, HT3.out.below⟩
          · have t1 : ¬ pv < x := hgt
            have t2 : decide (pv < x) = false := decide_eq_false hgt
            have AN := Lib.hid (show ∀ u', u' < u + 1 → atC zs p inc (s + u') ≤ plI (atC zs p inc s) (atC zs p inc u') from fun u' hu' => by
              by_cases e : u' = u
              · subst e; rw [HD.out, HX.out, HY.out, HZ.out, HPV.out]; omega
              · exact AU.out u' (by omega))
            go_wp2_with fail
            with_reducible refine (atp_any B a n cap zs p inc d (by omega) _ HT.out.cl).mono ?_
            rintro e u3 ⟨rfl, hd3⟩
            have HT1 := Lib.hid (HT.out.call (below_dr (Below.refl _ _) hd3))
            clear hd3
            rw [HX.out]
            go_wp2_with fail
            with_reducible refine (atp_any B a n cap zs p inc s (by omega) _ HT1.out.cl).mono ?_
            rintro e u4 ⟨rfl, hd3⟩
            have HT2 := Lib.hid (HT1.out.call (below_dr (Below.refl _ _) hd3))
            clear hd3
            rw [HY.out]
            go_wp2_with fail
            with_reducible refine (atp_any B a n cap zs p inc u (by omega) _ HT2.out.cl).mono ?_
            rintro e u5 ⟨rfl, hd3⟩
            have HT3 := Lib.hid (HT2.out.call (below_dr (Below.refl _ _) hd3))
            clear hd3
            rw [HZ.out]
            go_wp2_with fail
            with_reducible refine (pplus_any y z HM.out.1 HM.out.2 _).mono ?_
            rintro e u6 ⟨rfl, rfl⟩
            rw [HPV.out]
            go_wp2_with fail
            go_roundg g2
            case measure => omega
            case rel => exact ⟨u + 1, by omega, by go_num, AN, HT3⟩
        · have hlui : ¬ (u : Int) < (s1 : Int) := by omega
          have AN := Lib.hid (show ∀ s', s' < s + 1 → ∀ u, u ≤ s' → atC zs p inc (s' + u) ≤ plI (atC zs p inc s') (atC zs p inc u) from fun s' h1 u' h2 => by
            by_cases e : s' = s
            · subst e; exact AU.out u' (by omega)
            · exact AL.out s' (by omega) u' h2)
          go_wp2_with fail
          go_roundg g
          case measure => omega
          case rel => exact ⟨s + 1, by omega, by go_num, AN, HT⟩
    · obtain rfl : s = n := by omega
      have hlti : ¬ (s : Int) < (s : Int) := by omega
      have hbt : b = true := HBB.out.2 fun s' h1 u h2 => AL.out s' (by omega) u h2
      subst hbt
      go_wp2_with fail
      go_ret
      exact ⟨rfl, HS.out.below⟩

end Go.Proofs.Ytknimlpdpgpliaa

namespace Go.Proofs.Ytknimlpdpgpliaa
open Go.RowKit
set_option linter.unusedSimpArgs false
set_option linter.unusedVariables false

set_option maxRecDepth 100000 in
set_option maxHeartbeats 3200000 in
theorem csub14 (a : Option Addr) (n cap : Nat) (zs : List Int) (p : Nat) (inc : Int) (g : Good zs p inc) (b : Bool) (hb : b = true ↔ SubA (eC zs p inc)) (w : World) (h : RowZ w a n cap zs) :
    Calls Try.prog 70 #[curV a n cap p inc] w (Says (.tuple #[.bool b, .int .i64 0]) w) := by
  have G0 := Lib.hid g
  have HB := Lib.hid hb
  obtain ⟨W, hW⟩ : ∃ W, w.alloc (.cells #[.slice a n cap, .int .i64 p, .int .i64 inc] 26) = W := ⟨_, rfl⟩
  have hB : Below w.heap.size w W := by rw [← hW]; exact (Below.refl _ _).alloc (Nat.le_refl _) _
  have FB := Lib.hid (show Cur3 W w.heap.size (.slice a n cap) (.int .i64 p) (.int .i64 inc) from by rw [← hW]; exact Cur3.new w _ _ _ _)
  have RW := Lib.hid (h.under hB)
  have HBL := Lib.hid hB
  have HW := Lib.hid hW
  obtain ⟨c0, c1, c2, f0, f1, f2⟩ := FB.out
  clear g h hb hB hW
  go_enter Try.func70, Try.ntmps70
  go_upto_region 1 with fail
  try rw [HW.out]
  go_wp2_with fail
  refine (normal_ok a n cap zs p inc G0.out _ RW.out).mono ?_
  rintro e w1 ⟨a3, n3, cap3, x1, r1, k1, rfl, hb, hr, hnn, hx⟩
  have GX := Lib.hid (hnn.good G0.out)
  have HB2 := Lib.hid (show b = true ↔ SubA (eC x1 r1 k1) from by rw [funext (hnn.eform G0.out).2.1]; exact HB.out)
  obtain ⟨W1, hW1⟩ : ∃ W', (((w1.setCell ⟨w.heap.size, 0, none⟩ (.slice a3 n3 cap3)).setCell ⟨w.heap.size, 1, none⟩ (.int .i64 r1)).setCell ⟨w.heap.size, 2, none⟩ (.int .i64 k1)) = W' := ⟨_, rfl⟩
  have F1 := Lib.hid (show Cur3 W1 w.heap.size (.slice a3 n3 cap3) (.int .i64 r1) (.int .i64 k1) from by rw [← hW1]; exact (FB.out.below hb).set _ _ _)
  have R1 := Lib.hid (show RowZ W1 a3 n3 cap3 x1 from by
    have q : ∀ x, a3 = some x → 1 ≤ n3 → x.block ≠ w.heap.size := fun x h _ => by have := hx x h; have := FB.out.lt; omega
    rw [← hW1]; exact ((hr.store q _ _).store q _ _).store q _ _)
  have BL1 := Lib.hid (show Below w.heap.size w W1 from by rw [← hW1]; exact below_set3 (HBL.out.trans (hb.mono HBL.out.size)) (Nat.le_refl _) _ _ _)
  have HW1 := Lib.hid hW1
  clear c0 c1 c2 f0 f1 f2
  obtain ⟨c0, c1, c2, f0, f1, f2⟩ := FB.out.below hb
  clear hb hr hnn hx hW1
  go_upto_region 2 with fail
  try rw [HW1.out]
  clear c0 c1 c2 f0 f1 f2
  obtain ⟨c0, c1, c2, f0, f1, f2⟩ := F1.out
  go_wp2_with fail
  refine (subadd_any a3 n3 cap3 x1 r1 k1 GX.out b HB2.out _ R1.out).mono ?_
  rintro e w2 ⟨rfl, hb⟩
  have BL2 := Lib.hid (BL1.out.trans (hb.mono BL1.out.size))
  clear hb c0 c1 c2 f0 f1 f2
  go_wp2_with fail
  exact bodyPost_ret (v := .tuple #[.bool b, .int .i64 0]) (by simp [results, Try.results70, go_sem]) rfl ⟨rfl, BL2.out⟩
end Go.Proofs.Ytknimlpdpgpliaa
