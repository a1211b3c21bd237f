/- The sort of package slices at packets: its block, what swaps and what turns. By the verifier's side. -/
import Derived.Test.YtknimlpdpgpliaaTTrD
namespace Go.Proofs.Ytknimlpdpgpliaa
open Go.RowKit
set_option linter.unusedSimpArgs false
set_option linter.unusedVariables false

/-- The cells of a list of packets in an array of cells. -/
def pkCs (cs : Array Value) (off : Nat) (l : List Pk) : Prop :=
  ∀ i q, l[i]? = some q → cs[off + i * 3]? = some (.int .i64 q.f) ∧ cs[off + i * 3 + 1]? = some (.int .i64 q.t) ∧ cs[off + i * 3 + 2]? = some (.int .i64 q.s)
theorem pkCs.set {cs : Array Value} {off : Nat} {l : List Pk} (h : pkCs cs off l) {i : Nat} (hi : i < l.length) (q : Pk) :
    pkCs (((cs.setIfInBounds (off + i * 3) (.int .i64 q.f)).setIfInBounds (off + i * 3 + 1) (.int .i64 q.t)).setIfInBounds (off + i * 3 + 2) (.int .i64 q.s)) off (l.set i q) := fun j r hj => by
  by_cases e : j = i
  · subst e
    rw [List.getElem?_set_self hi] at hj
    cases hj
    obtain ⟨h1, h2, h3⟩ := h j _ (List.getElem?_eq_getElem hi)
    have k1 := (Array.getElem?_eq_some_iff.1 h1).1
    have k2 := (Array.getElem?_eq_some_iff.1 h2).1
    have k3 := (Array.getElem?_eq_some_iff.1 h3).1
    refine ⟨?_, ?_, ?_⟩
    · rw [Array.getElem?_setIfInBounds_ne (by omega), Array.getElem?_setIfInBounds_ne (by omega), Array.getElem?_setIfInBounds_self_of_lt k1]
    · rw [Array.getElem?_setIfInBounds_ne (by omega), Array.getElem?_setIfInBounds_self_of_lt (by simpa using k2)]
    · rw [Array.getElem?_setIfInBounds_self_of_lt (by simpa using k3)]
  · rw [List.getElem?_set_ne (fun h => e h.symm)] at hj
    obtain ⟨h1, h2, h3⟩ := h j r hj
    refine ⟨?_, ?_, ?_⟩ <;> rw [Array.getElem?_setIfInBounds_ne (by omega), Array.getElem?_setIfInBounds_ne (by omega), Array.getElem?_setIfInBounds_ne (by omega)] <;> assumption

/-- A block of its own, which reads a list of packets from a place on. -/
def PkO (u : World) (B off : Nat) (l : List Pk) : Prop := ∃ cs t, u.heap[B]? = some (.cells cs t (0, 0)) ∧ pkCs cs off l
section
variable {u v : World} {B off : Nat} {l : List Pk}
theorem PkO.frozen (h : PkO u B off l) (o : Nat) : u.frozen? ⟨B, o, none⟩ = false := by
  obtain ⟨cs, t, hb, _⟩ := h
  simp [World.frozen?, hb]
theorem PkO.cells (h : PkO u B off l) : PkC u B off l := fun i q hq => by
  obtain ⟨cs, t, hb, hc⟩ := h
  obtain ⟨h1, h2, h3⟩ := hc i q hq
  have e : ∀ o, u.cell? ⟨B, o, none⟩ = cs[o]? := fun o => by simp [World.cell?, hb]
  exact ⟨(e _).trans h1, (e _).trans h2, (e _).trans h3⟩
theorem PkO.lt (h : PkO u B off l) : B < u.heap.size := by
  obtain ⟨cs, t, hb, _⟩ := h
  exact (Array.getElem?_eq_some_iff.1 hb).1
theorem PkO.of_block (h : PkO u B off l) (hb : v.heap[B]? = u.heap[B]?) : PkO v B off l := by
  obtain ⟨cs, t, h1, h2⟩ := h; exact ⟨cs, t, hb.trans h1, h2⟩
theorem PkO.under (h : PkO u B off l) (hb : Below u.heap.size u v) : PkO v B off l := h.of_block (hb.block _ h.lt)
theorem PkO.drewN (h : PkO u B off l) (n : Nat) : PkO (u.drewN n) B off l := h
theorem PkO.drew (h : PkO u B off l) : PkO u.drew B off l := h
theorem block_set {w : World} {b : Nat} {cs : Array Value} {t : TypeId} (o : Nat) (x : Value) (h : w.heap[b]? = some (.cells cs t (0, 0))) : (w.setCell ⟨b, o, none⟩ x).heap[b]? = some (.cells (cs.setIfInBounds o x) t (0, 0)) := by
  simp [World.setCell, Array.getElem?_modify, h]
/-- The three stores of a packet. -/
theorem PkO.set (h : PkO u B off l) {i : Nat} (hi : i < l.length) (q : Pk) :
    PkO (((u.setCell ⟨B, off + i * 3, none⟩ (.int .i64 q.f)).setCell ⟨B, off + i * 3 + 1, none⟩ (.int .i64 q.t)).setCell ⟨B, off + i * 3 + 2, none⟩ (.int .i64 q.s)) B off (l.set i q) := by
  obtain ⟨cs, t, hb, hc⟩ := h
  exact ⟨_, t, block_set _ _ (block_set _ _ (block_set _ _ hb)), hc.set hi q⟩
end
theorem Apart.set3 {B : Nat} {u v : World} (h : Apart B u v) (o1 o2 o3 : Nat) (x1 x2 x3 : Value) : Apart B u (((v.setCell ⟨B, o1, none⟩ x1).setCell ⟨B, o2, none⟩ x2).setCell ⟨B, o3, none⟩ x3) :=
  h.trans ((((Else.refl _ _).setCell o1 x1).setCell o2 x2).setCell o3 x3).apart
theorem Apart.drew {b : Nat} {u v : World} (h : Apart b u v) : Apart b u v.drew := ⟨h.os, h.tape, h.output, h.size, h.block⟩

/-- The block holds the list l', all else is as it was. -/
def Sorts (B off : Nat) (l' : List Pk) (w : World) (e : Ending) (w' : World) : Prop := e = .returned (.tuple #[]) ∧ Apart B w w' ∧ PkO w' B off l'

/-- Two runs of m packets exchanged. -/
def swF (a b m : Nat) (l : List Pk) (i : Nat) : Option Pk := if a ≤ i ∧ i < a + m then l[b + (i - a)]? else if b ≤ i ∧ i < b + m then l[a + (i - b)]? else l[i]?
theorem swF_step {a b k : Nat} {l y : List Pk} {p q : Pk} (hab : a + k < b) (hl : b + k < l.length) (hyl : y.length = l.length) (hy : ∀ i, y[i]? = swF a b k l i) (hp : y[a + k]? = some p) (hq : y[b + k]? = some q) :
    ∀ i, ((y.set (a + k) q).set (b + k) p)[i]? = swF a b (k + 1) l i := fun i => by
  have hp' : l[a + k]? = some p := by rw [← hp, hy]; unfold swF; rw [if_neg (by omega), if_neg (by omega)]
  have hq' : l[b + k]? = some q := by rw [← hq, hy]; unfold swF; rw [if_neg (by omega), if_neg (by omega)]
  by_cases e1 : i = b + k
  · subst e1
    rw [List.getElem?_set_self (by rw [List.length_set]; omega)]
    unfold swF
    rw [if_neg (by omega), if_pos (by omega), show a + (b + k - b) = a + k by omega, hp']
  · rw [List.getElem?_set_ne (fun h => e1 h.symm)]
    by_cases e2 : i = a + k
    · subst e2
      rw [List.getElem?_set_self (by omega)]
      unfold swF
      rw [if_pos (by omega), show b + (a + k - a) = b + k by omega, hq']
    · rw [List.getElem?_set_ne (fun h => e2 h.symm), hy]
      unfold swF
      by_cases c1 : a ≤ i ∧ i < a + k
      · have c1' : a ≤ i ∧ i < a + (k + 1) := by omega
        rw [if_pos c1, if_pos c1']
      · have c1' : ¬ (a ≤ i ∧ i < a + (k + 1)) := by omega
        rw [if_neg c1, if_neg c1']
        by_cases c2 : b ≤ i ∧ i < b + k
        · have c2' : b ≤ i ∧ i < b + (k + 1) := by omega
          rw [if_pos c2, if_pos c2']
        · have c2' : ¬ (b ≤ i ∧ i < b + (k + 1)) := by omega
          rw [if_neg c2, if_neg c2']
theorem swF_of (P X M Y Q : List Pk) (hXY : X.length = Y.length) (i : Nat) : (P ++ (Y ++ (M ++ (X ++ Q))))[i]? = swF P.length (P.length + X.length + M.length) X.length (P ++ (X ++ (M ++ (Y ++ Q)))) i := by
  unfold swF
  simp only [List.getElem?_append]
  repeat' split
  all_goals first | rfl | omega | (congr 1; omega) | skip

/-- What the rotation has done: X and Y are still to be exchanged. -/
def Rot (m n : Nat) (L' : List Pk) (i j : Nat) (y : List Pk) : Prop := ∃ P X Y Q, y = P ++ (X ++ (Y ++ Q)) ∧ L' = P ++ (Y ++ (X ++ Q)) ∧ X.length = i ∧ Y.length = j ∧ P.length + i = m ∧ y.length = n
theorem Rot.left {m n i j : Nat} {L' y : List Pk} (h : Rot m n L' i j y) (hij : j < i) : ∃ y', (∀ t, y'[t]? = swF (m - i) m j y t) ∧ Rot m n L' (i - j) j y' := by
  obtain ⟨P, X, Y, Q, rfl, rfl, hx, hy, hm, hn⟩ := h
  have e : X.take j ++ X.drop j = X := List.take_append_drop j X
  have l1 : (X.take j).length = j := by rw [List.length_take]; omega
  have l2 : (X.drop j).length = i - j := by rw [List.length_drop]; omega
  refine ⟨P ++ (Y ++ (X.drop j ++ (X.take j ++ Q))), fun t => ?_, P ++ Y, X.drop j, X.take j, Q, by simp, ?_, l2, l1, by rw [List.length_append]; omega, ?_⟩
  · rw [swF_of P (X.take j) (X.drop j) Y Q (by omega) t, l1, l2, show P.length + j + (i - j) = m by omega, show P.length = m - i by omega]
    rw [← List.append_assoc (X.take j), e]
  · show P ++ (Y ++ (X ++ Q)) = P ++ Y ++ (X.take j ++ (X.drop j ++ Q))
    rw [← List.append_assoc (X.take j), e, List.append_assoc]
  · simp only [List.length_append] at hn ⊢; omega
theorem Rot.right {m n i j : Nat} {L' y : List Pk} (h : Rot m n L' i j y) (hij : i < j) : ∃ y', (∀ t, y'[t]? = swF (m - i) (m + j - i) i y t) ∧ Rot m n L' i (j - i) y' := by
  obtain ⟨P, X, Y, Q, rfl, rfl, hx, hy, hm, hn⟩ := h
  have e : Y.take (j - i) ++ Y.drop (j - i) = Y := List.take_append_drop (j - i) Y
  have l1 : (Y.take (j - i)).length = j - i := by rw [List.length_take]; omega
  have l2 : (Y.drop (j - i)).length = i := by rw [List.length_drop]; omega
  refine ⟨P ++ (Y.drop (j - i) ++ (Y.take (j - i) ++ (X ++ Q))), fun t => ?_, P, Y.drop (j - i), Y.take (j - i), X ++ Q, rfl, ?_, l2, l1, hm, ?_⟩
  · rw [swF_of P X (Y.take (j - i)) (Y.drop (j - i)) Q (by omega) t, l1, hx, show P.length + i + (j - i) = m + j - i by omega, show P.length = m - i by omega]
    rw [← List.append_assoc (Y.take (j - i)), e]
  · rw [← List.append_assoc (Y.take (j - i)), e]
  · simp only [List.length_append] at hn ⊢; omega
theorem Rot.last {m n i : Nat} {L' y : List Pk} (h : Rot m n L' i i y) : ∀ t, L'[t]? = swF (m - i) m i y t := by
  obtain ⟨P, X, Y, Q, rfl, rfl, hx, hy, hm, hn⟩ := h
  intro t
  have := swF_of P X [] Y Q (by omega) t
  simp only [List.nil_append, List.length_nil, Nat.add_zero] at this
  rw [this, hx, show P.length + i = m by omega, show P.length = m - i by omega]
theorem Rot.bounds {m n i j : Nat} {L' y : List Pk} (h : Rot m n L' i j y) : i ≤ m ∧ m + j ≤ n ∧ y.length = n := by
  obtain ⟨P, X, Y, Q, rfl, rfl, hx, hy, hm, hn⟩ := h
  have := hn
  simp only [List.length_append] at this
  exact ⟨by omega, by omega, hn⟩

set_option maxRecDepth 100000 in
set_option maxHeartbeats 1600000 in
theorem swapRange13 (B off n cap a b m : Nat) (l y' : List Pk) (hl : l.length = n) (c : Value) (w : World) (h : PkO w B off l) (ha : a + m ≤ b) (hb : b + m ≤ n) (hn : n ≤ 1000) (hy' : ∀ i, y'[i]? = swF a b m l i) :
    Calls Try.prog 172 #[.slice (some ⟨B, off, none⟩) n cap, .int .i64 a, .int .i64 b, .int .i64 m, c] w (Sorts B off y' w) := by
  have HY' := Lib.hid hy'
  have H := Lib.hid (And.intro h (show ∀ i, l[i]? = swF a b 0 l i from fun i => by unfold swF; rw [if_neg (by omega), if_neg (by omega)]))
  have HL := Lib.hid hl
  clear h hy' hl
  go_enter Try.func172, Try.ntmps172
  go_wp2_with fail
  go_loopw [10] (fun vi wx => ∃ (k : Nat) (y : List Pk), vi = .int .i64 k ∧ k ≤ m ∧ y.length = n ∧ Hid (PkO wx B off y ∧ ∀ i, y[i]? = swF a b k l i) ∧ Hid (Apart B w wx)) (fun vi _ => m - (intOf vi).toNat)
  case atStart => exact ⟨0, l, by go_num, Nat.zero_le _, HL.out, H, Apart.refl _ _⟩
  case round =>
    obtain ⟨k, y, rfl, hk, hy, HO, HA⟩ := hrel
    obtain ⟨wk, rfl⟩ : ∃ u : World, u = wr := ⟨_, rfl⟩
    by_cases hlt : k < m
    · have hlI : (k : Int) < (m : Int) := by omega
      obtain ⟨p, hp⟩ : ∃ p, y[a + k]? = some p := ⟨_, List.getElem?_eq_getElem (by omega)⟩
      obtain ⟨q, hq⟩ : ∃ q, y[b + k]? = some q := ⟨_, List.getElem?_eq_getElem (by omega)⟩
      obtain ⟨c0, c1, c2⟩ := HO.out.1.cells _ p hp
      obtain ⟨d0, d1, d2⟩ := HO.out.1.cells _ q hq
      have hf := HO.out.1.frozen
      have hak : (a : Int) + (k : Int) < (n : Int) := by omega
      have hbk : (b : Int) + (k : Int) < (n : Int) := by omega
      have g1 : ¬ a = b := by omega
      have g2 : ¬ b = a := by omega
      have gg1 : ¬ off + (a + k) * 3 + 1 = off + (b + k) * 3 := by omega
      have gg2 : ¬ off + (a + k) * 3 + 2 = off + (b + k) * 3 := by omega
      have gg3 : ¬ off + (a + k) * 3 = off + (b + k) * 3 + 1 := by omega
      have gg4 : ¬ off + (a + k) * 3 = off + (b + k) * 3 + 2 := by omega
      have gg5 : ¬ off + (b + k) * 3 + 1 = off + (a + k) * 3 := by omega
      have gg6 : ¬ off + (b + k) * 3 + 2 = off + (a + k) * 3 := by omega
      have gg7 : ¬ off + (b + k) * 3 = off + (a + k) * 3 + 1 := by omega
      have gg8 : ¬ off + (b + k) * 3 = off + (a + k) * 3 + 2 := by omega
      have HS := Lib.hid (swF_step (by omega) (by rw [HL.out]; omega) (by rw [hy, HL.out]) HO.out.2 hp hq)
      clear hp hq
      go_wp2_with fail
      go_region
      all_goals go_wp2_with fail
      go_roundw
      case rel =>
        refine ⟨k + 1, (y.set (a + k) q).set (b + k) p, by go_num, by omega, by simp only [List.length_set]; exact hy, ⟨?_, HS.out⟩, ?_⟩
        · exact ((HO.out.1.set (by omega) q).set (by rw [List.length_set]; omega) p).drew
        · exact ((HA.out.set3 _ _ _ _ _ _).set3 _ _ _ _ _ _).drew
      case measure => simp [intOf]; omega
    · obtain rfl : k = m := by omega
      have hkI : ¬ (k : Int) < (k : Int) := by omega
      go_wp2_with fail
      go_end0
      refine ⟨rfl, HA.out, ?_⟩
      rw [show y' = y from List.ext_getElem? fun i => by rw [HY'.out, HO.out.2]]
      exact HO.out.1

set_option maxRecDepth 100000 in
set_option maxHeartbeats 1600000 in
theorem rotate13 (B off n cap a m b i0 j0 : Nat) (L L' : List Pk) (hR : Rot m n L' i0 j0 L) (ha : a + i0 = m) (hb : m + j0 = b) (hi : 1 ≤ i0) (hj : 1 ≤ j0) (c : Value) (w : World) (h : PkO w B off L) (hn : n ≤ 1000) :
    Calls Try.prog 171 #[.slice (some ⟨B, off, none⟩) n cap, .int .i64 a, .int .i64 m, .int .i64 b, c] w (Sorts B off L' w) := by
  have H := Lib.hid (And.intro h hR)
  have hbd := hR.bounds
  have eI : (m : Int) - (a : Int) = (i0 : Int) := by omega
  have eJ : (b : Int) - (m : Int) = (j0 : Int) := by omega
  have HAB := Lib.hid (And.intro ha hb)
  have hm1 : m ≤ 1000 := by omega
  have hb1 : b ≤ 1000 := by omega
  have ha1 : a ≤ 1000 := by omega
  clear h hR ha hb hbd
  go_enter Try.func171, Try.ntmps171
  go_wp2_with fail
  go_loopw [10, 11] (fun s10 s11 wx => ∃ (i j : Nat) (y : List Pk), s10 = .int .i64 i ∧ s11 = .int .i64 j ∧ 1 ≤ i ∧ 1 ≤ j ∧ Hid (PkO wx B off y ∧ Rot m n L' i j y) ∧ Hid (Apart B w wx)) (fun s10 s11 _ => (intOf s10).toNat + (intOf s11).toNat)
  case atStart => exact ⟨i0, j0, L, by first | rfl | rw [eI], by first | rfl | rw [eJ], hi, hj, H, Apart.refl _ _⟩
  case round =>
    obtain ⟨i, j, y, rfl, rfl, h1, h2, HO, HA⟩ := hrel
    obtain ⟨wk, rfl⟩ : ∃ u : World, u = wr := ⟨_, rfl⟩
    obtain ⟨b1, b2, b3⟩ := HO.out.2.bounds
    have hi3 : i ≤ 1000 := by omega
    have hj3 : j ≤ 1000 := by omega
    rcases Nat.lt_trichotomy i j with hij | hij | hij
    · obtain ⟨y', hy', hR'⟩ := HO.out.2.right hij
      have hc := swapRange13 B off n cap (m - i) (m + j - i) i y y' b3 c wk HO.out.1 (by omega) (by omega) hn hy'
      rw [show ((m - i : Nat) : Int) = (m : Int) - (i : Int) by omega, show ((m + j - i : Nat) : Int) = (m : Int) + (j : Int) - (i : Int) by omega] at hc
      have HR := Lib.hid hR'
      have d1 : ¬ (i : Int) = (j : Int) := by omega
      have d2 : ¬ (j : Int) < (i : Int) := by omega
      clear hy' hR'
      go_wp2_with fail
      refine hc.mono ?_
      clear hc
      rintro e w1 ⟨rfl, ha1, ho1⟩
      have HS1 := Lib.hid (And.intro ha1 ho1)
      clear ha1 ho1
      go_wp2_with fail
      go_roundw
      case rel => exact ⟨i, j - i, y', by go_num, by congr 1; omega, h1, by omega, ⟨HS1.out.2, HR.out⟩, HA.out.trans HS1.out.1⟩
      case measure => simp [intOf]; omega
    · subst hij
      have hc := swapRange13 B off n cap (m - i) m i y L' b3 c wk HO.out.1 (by omega) (by omega) hn HO.out.2.last
      rw [show ((m - i : Nat) : Int) = (m : Int) - (i : Int) by omega] at hc
      go_wp2_with fail
      refine hc.mono ?_
      clear hc
      rintro e w1 ⟨rfl, ha1, ho1⟩
      have HS1 := Lib.hid (And.intro ha1 ho1)
      clear ha1 ho1
      go_wp2_with fail
      go_end0
      exact ⟨rfl, HA.out.trans HS1.out.1, HS1.out.2⟩
    · obtain ⟨y', hy', hR'⟩ := HO.out.2.left hij
      have hc := swapRange13 B off n cap (m - i) m j y y' b3 c wk HO.out.1 (by omega) (by omega) hn hy'
      rw [show ((m - i : Nat) : Int) = (m : Int) - (i : Int) by omega] at hc
      have HR := Lib.hid hR'
      have d1 : ¬ (i : Int) = (j : Int) := by omega
      have d2 : (j : Int) < (i : Int) := by omega
      clear hy' hR'
      go_wp2_with fail
      refine hc.mono ?_
      clear hc
      rintro e w1 ⟨rfl, ha1, ho1⟩
      have HS1 := Lib.hid (And.intro ha1 ho1)
      clear ha1 ho1
      go_wp2_with fail
      go_roundw
      case rel => exact ⟨i - j, j, y', by congr 1; omega, by go_num, by omega, h2, ⟨HS1.out.2, HR.out⟩, HA.out.trans HS1.out.1⟩
      case measure => simp [intOf]; omega

end Go.Proofs.Ytknimlpdpgpliaa
