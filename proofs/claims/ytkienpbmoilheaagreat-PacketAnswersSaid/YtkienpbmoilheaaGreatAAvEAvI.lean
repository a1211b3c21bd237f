/- The sort of package slices at arrivals: their block, swaps, turns, the comparison, the insertion sort. By the verifier's side. -/
import Derived.Test.YtkienpbmoilheaaGreatATrETrFTrI
import Derived.Test.YtkienpbmoilheaaGreatATrMAvMAvLPkM
namespace Go.Proofs.YtkienpbmoilheaaGreat
open Go.RowKit Go.Sort
set_option linter.unusedSimpArgs false
set_option linter.unusedVariables false

/-- The cells of a list of packets, from a place on. -/
def PkC_a (u : World) (B off : Nat) (l : List Pk_a) : Prop :=
  ∀ i q, l[i]? = some q → u.cell? ⟨B, off + i * 4, none⟩ = some (.int .i64 q.f) ∧ u.cell? ⟨B, off + i * 4 + 1, none⟩ = some (.int .i64 q.t) ∧ u.cell? ⟨B, off + i * 4 + 2, none⟩ = some (.int .i64 q.s) ∧ u.cell? ⟨B, off + i * 4 + 3, none⟩ = some (.int .i64 q.i)
section
variable {u v : World} {B off b : Nat} {l : List Pk_a}
theorem PkC_a.of_block (h : PkC_a u B off l) (hb : B < u.heap.size → v.heap[B]? = u.heap[B]?) : PkC_a v B off l := fun i c hc => by
  obtain ⟨h1, h2, h3, h4⟩ := h i c hc
  have hb' := hb (lt_of_cell h1)
  have hs : ∀ o, v.cell? ⟨B, o, none⟩ = u.cell? ⟨B, o, none⟩ := fun o => World.cell?_of_block (w := u) (a := ⟨B, o, none⟩) hb'
  exact ⟨(hs _).trans h1, (hs _).trans h2, (hs _).trans h3, (hs _).trans h4⟩
theorem PkC_a.under (h : PkC_a u B off l) (hb : Below u.heap.size u v) : PkC_a v B off l := fun i c hc => by
  obtain ⟨h1, h2, h3, h4⟩ := h i c hc
  exact ⟨(hb.cell (lt_of_cell h1)).trans h1, (hb.cell (lt_of_cell h2)).trans h2, (hb.cell (lt_of_cell h3)).trans h3, (hb.cell (lt_of_cell h4)).trans h4⟩
theorem PkC_a.apart (h : PkC_a u B off l) (ha : Apart b u v) (hB : B ≠ b) : PkC_a v B off l := h.of_block fun hl => ha.block _ hl hB
theorem PkC_a.other {q : Nat} (h : PkC_a u B off l) (hq : B ≠ q) (i : Nat) (x : Value) : PkC_a (u.setCell ⟨q, i, none⟩ x) B off l := h.of_block fun _ => Below.heap_setCell _ _ _ _ hq
theorem PkC_a.lt (h : PkC_a u B off l) {i : Nat} {q : Pk_a} (hc : l[i]? = some q) : B < u.heap.size := lt_of_cell (h i q hc).1
end


/-- The cells of a list of packets in an array of cells. -/
def pkCs_a (cs : Array Value) (off : Nat) (l : List Pk_a) : Prop :=
  ∀ i q, l[i]? = some q → cs[off + i * 4]? = some (.int .i64 q.f) ∧ cs[off + i * 4 + 1]? = some (.int .i64 q.t) ∧ cs[off + i * 4 + 2]? = some (.int .i64 q.s) ∧ cs[off + i * 4 + 3]? = some (.int .i64 q.i)
theorem pkCs_a.set {cs : Array Value} {off : Nat} {l : List Pk_a} (h : pkCs_a cs off l) {i : Nat} (hi : i < l.length) (q : Pk_a) :
    pkCs_a ((((cs.setIfInBounds (off + i * 4) (.int .i64 q.f)).setIfInBounds (off + i * 4 + 1) (.int .i64 q.t)).setIfInBounds (off + i * 4 + 2) (.int .i64 q.s)).setIfInBounds (off + i * 4 + 3) (.int .i64 q.i)) off (l.set i q) := fun j r hj => by
  by_cases e : j = i
  · subst e
    rw [List.getElem?_set_self hi] at hj
    cases hj
    obtain ⟨h1, h2, h3, h4⟩ := h j _ (List.getElem?_eq_getElem hi)
    have k1 := (Array.getElem?_eq_some_iff.1 h1).1
    have k2 := (Array.getElem?_eq_some_iff.1 h2).1
    have k3 := (Array.getElem?_eq_some_iff.1 h3).1
    have k4 := (Array.getElem?_eq_some_iff.1 h4).1
    refine ⟨?_, ?_, ?_, ?_⟩
    · rw [Array.getElem?_setIfInBounds_ne (by omega), Array.getElem?_setIfInBounds_ne (by omega), Array.getElem?_setIfInBounds_ne (by omega), Array.getElem?_setIfInBounds_self_of_lt k1]
    · rw [Array.getElem?_setIfInBounds_ne (by omega), Array.getElem?_setIfInBounds_ne (by omega), Array.getElem?_setIfInBounds_self_of_lt (by simpa using k2)]
    · rw [Array.getElem?_setIfInBounds_ne (by omega), Array.getElem?_setIfInBounds_self_of_lt (by simpa using k3)]
    · rw [Array.getElem?_setIfInBounds_self_of_lt (by simpa using k4)]
  · rw [List.getElem?_set_ne (fun h => e h.symm)] at hj
    obtain ⟨h1, h2, h3, h4⟩ := h j r hj
    refine ⟨?_, ?_, ?_, ?_⟩ <;> rw [Array.getElem?_setIfInBounds_ne (by omega), Array.getElem?_setIfInBounds_ne (by omega), Array.getElem?_setIfInBounds_ne (by omega), Array.getElem?_setIfInBounds_ne (by omega)] <;> assumption

/-- A block of its own, which reads a list of packets from a place on. -/
def PkO_a (u : World) (B off : Nat) (l : List Pk_a) : Prop := ∃ cs t, u.heap[B]? = some (.cells cs t (0, 0)) ∧ pkCs_a cs off l
section
variable {u v : World} {B off : Nat} {l : List Pk_a}
theorem PkO_a.frozen (h : PkO_a u B off l) (o : Nat) : u.frozen? ⟨B, o, none⟩ = false := by
  obtain ⟨cs, t, hb, _⟩ := h
  simp [World.frozen?, hb]
theorem PkO_a.cells (h : PkO_a u B off l) : PkC_a u B off l := fun i q hq => by
  obtain ⟨cs, t, hb, hc⟩ := h
  obtain ⟨h1, h2, h3, h4⟩ := hc i q hq
  have e : ∀ o, u.cell? ⟨B, o, none⟩ = cs[o]? := fun o => by simp [World.cell?, hb]
  exact ⟨(e _).trans h1, (e _).trans h2, (e _).trans h3, (e _).trans h4⟩
theorem PkO_a.lt (h : PkO_a u B off l) : B < u.heap.size := by
  obtain ⟨cs, t, hb, _⟩ := h
  exact (Array.getElem?_eq_some_iff.1 hb).1
theorem PkO_a.of_block (h : PkO_a u B off l) (hb : v.heap[B]? = u.heap[B]?) : PkO_a v B off l := by
  obtain ⟨cs, t, h1, h2⟩ := h; exact ⟨cs, t, hb.trans h1, h2⟩
theorem PkO_a.under (h : PkO_a u B off l) (hb : Below u.heap.size u v) : PkO_a v B off l := h.of_block (hb.block _ h.lt)
theorem PkO_a.drewN (h : PkO_a u B off l) (n : Nat) : PkO_a (u.drewN n) B off l := h
theorem PkO_a.drew (h : PkO_a u B off l) : PkO_a u.drew B off l := h
/-- The four stores of an arrival. -/
theorem PkO_a.set (h : PkO_a u B off l) {i : Nat} (hi : i < l.length) (q : Pk_a) :
    PkO_a ((((u.setCell ⟨B, off + i * 4, none⟩ (.int .i64 q.f)).setCell ⟨B, off + i * 4 + 1, none⟩ (.int .i64 q.t)).setCell ⟨B, off + i * 4 + 2, none⟩ (.int .i64 q.s)).setCell ⟨B, off + i * 4 + 3, none⟩ (.int .i64 q.i)) B off (l.set i q) := by
  obtain ⟨cs, t, hb, hc⟩ := h
  exact ⟨_, t, block_set _ _ (block_set _ _ (block_set _ _ (block_set _ _ hb))), hc.set hi q⟩
end
theorem Apart.set4 {B : Nat} {u v : World} (h : Apart B u v) (o1 o2 o3 o4 : Nat) (x1 x2 x3 x4 : Value) : Apart B u ((((v.setCell ⟨B, o1, none⟩ x1).setCell ⟨B, o2, none⟩ x2).setCell ⟨B, o3, none⟩ x3).setCell ⟨B, o4, none⟩ x4) :=
  h.trans (((((Else.refl _ _).setCell o1 x1).setCell o2 x2).setCell o3 x3).setCell o4 x4).apart
/-- The block holds the list l', all else is as it was. -/
def Sorts_a (B off : Nat) (l' : List Pk_a) (w : World) (e : Ending) (w' : World) : Prop := e = .returned (.tuple #[]) ∧ Apart B w w' ∧ PkO_a w' B off l'

/-- Two runs of m packets exchanged. -/
def swF_a (a b m : Nat) (l : List Pk_a) (i : Nat) : Option Pk_a := if a ≤ i ∧ i < a + m then l[b + (i - a)]? else if b ≤ i ∧ i < b + m then l[a + (i - b)]? else l[i]?
theorem swF_step_a {a b k : Nat} {l y : List Pk_a} {p q : Pk_a} (hab : a + k < b) (hl : b + k < l.length) (hyl : y.length = l.length) (hy : ∀ i, y[i]? = swF_a a b k l i) (hp : y[a + k]? = some p) (hq : y[b + k]? = some q) :
    ∀ i, ((y.set (a + k) q).set (b + k) p)[i]? = swF_a a b (k + 1) l i := fun i => by
  have hp' : l[a + k]? = some p := by rw [← hp, hy]; unfold swF_a; rw [if_neg (by omega), if_neg (by omega)]
  have hq' : l[b + k]? = some q := by rw [← hq, hy]; unfold swF_a; rw [if_neg (by omega), if_neg (by omega)]
  by_cases e1 : i = b + k
  · subst e1
    rw [List.getElem?_set_self (by rw [List.length_set]; omega)]
    unfold swF_a
    rw [if_neg (by omega), if_pos (by omega), show a + (b + k - b) = a + k by omega, hp']
  · rw [List.getElem?_set_ne (fun h => e1 h.symm)]
    by_cases e2 : i = a + k
    · subst e2
      rw [List.getElem?_set_self (by omega)]
      unfold swF_a
      rw [if_pos (by omega), show b + (a + k - a) = b + k by omega, hq']
    · rw [List.getElem?_set_ne (fun h => e2 h.symm), hy]
      unfold swF_a
      by_cases c1 : a ≤ i ∧ i < a + k
      · have c1' : a ≤ i ∧ i < a + (k + 1) := by omega
        rw [if_pos c1, if_pos c1']
      · have c1' : ¬ (a ≤ i ∧ i < a + (k + 1)) := by omega
        rw [if_neg c1, if_neg c1']
        by_cases c2 : b ≤ i ∧ i < b + k
        · have c2' : b ≤ i ∧ i < b + (k + 1) := by omega
          rw [if_pos c2, if_pos c2']
        · have c2' : ¬ (b ≤ i ∧ i < b + (k + 1)) := by omega
          rw [if_neg c2, if_neg c2']
theorem swF_of_a (P X M Y Q : List Pk_a) (hXY : X.length = Y.length) (i : Nat) : (P ++ (Y ++ (M ++ (X ++ Q))))[i]? = swF_a P.length (P.length + X.length + M.length) X.length (P ++ (X ++ (M ++ (Y ++ Q)))) i := by
  unfold swF_a
  simp only [List.getElem?_append]
  repeat' split
  all_goals first | rfl | omega | (congr 1; omega) | skip

/-- What the rotation has done: X and Y are still to be exchanged. -/
def Rot_a (m n : Nat) (L' : List Pk_a) (i j : Nat) (y : List Pk_a) : Prop := ∃ P X Y Q, y = P ++ (X ++ (Y ++ Q)) ∧ L' = P ++ (Y ++ (X ++ Q)) ∧ X.length = i ∧ Y.length = j ∧ P.length + i = m ∧ y.length = n
theorem Rot_a.left {m n i j : Nat} {L' y : List Pk_a} (h : Rot_a m n L' i j y) (hij : j < i) : ∃ y', (∀ t, y'[t]? = swF_a (m - i) m j y t) ∧ Rot_a m n L' (i - j) j y' := by
  obtain ⟨P, X, Y, Q, rfl, rfl, hx, hy, hm, hn⟩ := h
  have e : X.take j ++ X.drop j = X := List.take_append_drop j X
  have l1 : (X.take j).length = j := by rw [List.length_take]; omega
  have l2 : (X.drop j).length = i - j := by rw [List.length_drop]; omega
  refine ⟨P ++ (Y ++ (X.drop j ++ (X.take j ++ Q))), fun t => ?_, P ++ Y, X.drop j, X.take j, Q, by simp, ?_, l2, l1, by rw [List.length_append]; omega, ?_⟩
  · rw [swF_of_a P (X.take j) (X.drop j) Y Q (by omega) t, l1, l2, show P.length + j + (i - j) = m by omega, show P.length = m - i by omega]
    rw [← List.append_assoc (X.take j), e]
  · show P ++ (Y ++ (X ++ Q)) = P ++ Y ++ (X.take j ++ (X.drop j ++ Q))
    rw [← List.append_assoc (X.take j), e, List.append_assoc]
  · simp only [List.length_append] at hn ⊢; omega
theorem Rot_a.right {m n i j : Nat} {L' y : List Pk_a} (h : Rot_a m n L' i j y) (hij : i < j) : ∃ y', (∀ t, y'[t]? = swF_a (m - i) (m + j - i) i y t) ∧ Rot_a m n L' i (j - i) y' := by
  obtain ⟨P, X, Y, Q, rfl, rfl, hx, hy, hm, hn⟩ := h
  have e : Y.take (j - i) ++ Y.drop (j - i) = Y := List.take_append_drop (j - i) Y
  have l1 : (Y.take (j - i)).length = j - i := by rw [List.length_take]; omega
  have l2 : (Y.drop (j - i)).length = i := by rw [List.length_drop]; omega
  refine ⟨P ++ (Y.drop (j - i) ++ (Y.take (j - i) ++ (X ++ Q))), fun t => ?_, P, Y.drop (j - i), Y.take (j - i), X ++ Q, rfl, ?_, l2, l1, hm, ?_⟩
  · rw [swF_of_a P X (Y.take (j - i)) (Y.drop (j - i)) Q (by omega) t, l1, hx, show P.length + i + (j - i) = m + j - i by omega, show P.length = m - i by omega]
    rw [← List.append_assoc (Y.take (j - i)), e]
  · rw [← List.append_assoc (Y.take (j - i)), e]
  · simp only [List.length_append] at hn ⊢; omega
theorem Rot_a.last {m n i : Nat} {L' y : List Pk_a} (h : Rot_a m n L' i i y) : ∀ t, L'[t]? = swF_a (m - i) m i y t := by
  obtain ⟨P, X, Y, Q, rfl, rfl, hx, hy, hm, hn⟩ := h
  intro t
  have := swF_of_a P X [] Y Q (by omega) t
  simp only [List.nil_append, List.length_nil, Nat.add_zero] at this
  rw [this, hx, show P.length + i = m by omega, show P.length = m - i by omega]
theorem Rot_a.bounds {m n i j : Nat} {L' y : List Pk_a} (h : Rot_a m n L' i j y) : i ≤ m ∧ m + j ≤ n ∧ y.length = n := by
  obtain ⟨P, X, Y, Q, rfl, rfl, hx, hy, hm, hn⟩ := h
  have := hn
  simp only [List.length_append] at this
  exact ⟨by omega, by omega, hn⟩

set_option maxRecDepth 100000 in
set_option maxHeartbeats 1600000 in
theorem swapRange13_a (B off n cap a b m : Nat) (l y' : List Pk_a) (hl : l.length = n) (c : Value) (w : World) (h : PkO_a w B off l) (ha : a + m ≤ b) (hb : b + m ≤ n) (hn : n ≤ 1000) (hy' : ∀ i, y'[i]? = swF_a a b m l i) :
    Calls Tryz.prog 109 #[.slice (some ⟨B, off, none⟩) n cap, .int .i64 a, .int .i64 b, .int .i64 m, c] w (Sorts_a B off y' w) := by
  have HY' := Lib.hid hy'
  have H := Lib.hid (And.intro h (show ∀ i, l[i]? = swF_a a b 0 l i from fun i => by unfold swF_a; rw [if_neg (by omega), if_neg (by omega)]))
  have HL := Lib.hid hl
  clear h hy' hl
  go_enter Tryz.func109, Tryz.ntmps109
  go_wp2_with fail
  go_loopw [10] (fun vi wx => ∃ (k : Nat) (y : List Pk_a), vi = .int .i64 k ∧ k ≤ m ∧ y.length = n ∧ Hid (PkO_a wx B off y ∧ ∀ i, y[i]? = swF_a a b k l i) ∧ Hid (Apart B w wx)) (fun vi _ => m - (intOf vi).toNat)
  case atStart => exact ⟨0, l, by go_num, Nat.zero_le _, HL.out, H, Apart.refl _ _⟩
  case round =>
    obtain ⟨k, y, rfl, hk, hy, HO, HA⟩ := hrel
    obtain ⟨wk, rfl⟩ : ∃ u : World, u = wr := ⟨_, rfl⟩
    by_cases hlt : k < m
    · have hlI : (k : Int) < (m : Int) := by omega
      obtain ⟨p, hp⟩ : ∃ p, y[a + k]? = some p := ⟨_, List.getElem?_eq_getElem (by omega)⟩
      obtain ⟨q, hq⟩ : ∃ q, y[b + k]? = some q := ⟨_, List.getElem?_eq_getElem (by omega)⟩
      obtain ⟨c0, c1, c2, c3⟩ := HO.out.1.cells _ p hp
      obtain ⟨d0, d1, d2, d3⟩ := HO.out.1.cells _ q hq
      have hf := HO.out.1.frozen
      have hak : (a : Int) + (k : Int) < (n : Int) := by omega
      have hbk : (b : Int) + (k : Int) < (n : Int) := by omega
      have g1 : ¬ a = b := by omega
      have g2 : ¬ b = a := by omega
      have gg0 : ¬ off + (a + k) * 4 + 1 = off + (b + k) * 4 := by omega
      have gg1 : ¬ off + (a + k) * 4 = off + (b + k) * 4 + 1 := by omega
      have gg2 : ¬ off + (a + k) * 4 + 2 = off + (b + k) * 4 := by omega
      have gg3 : ¬ off + (a + k) * 4 = off + (b + k) * 4 + 2 := by omega
      have gg4 : ¬ off + (a + k) * 4 + 3 = off + (b + k) * 4 := by omega
      have gg5 : ¬ off + (a + k) * 4 = off + (b + k) * 4 + 3 := by omega
      have gg6 : ¬ off + (b + k) * 4 + 1 = off + (a + k) * 4 := by omega
      have gg7 : ¬ off + (b + k) * 4 = off + (a + k) * 4 + 1 := by omega
      have gg8 : ¬ off + (b + k) * 4 + 2 = off + (a + k) * 4 := by omega
      have gg9 : ¬ off + (b + k) * 4 = off + (a + k) * 4 + 2 := by omega
      have gg10 : ¬ off + (b + k) * 4 + 3 = off + (a + k) * 4 := by omega
      have gg11 : ¬ off + (b + k) * 4 = off + (a + k) * 4 + 3 := by omega
      have HS := Lib.hid (swF_step_a (by omega) (by rw [HL.out]; omega) (by rw [hy, HL.out]) HO.out.2 hp hq)
      clear hp hq
      go_wp2_with fail
      go_region
      all_goals go_wp2_with fail
      go_roundw
      case rel =>
        refine ⟨k + 1, (y.set (a + k) q).set (b + k) p, by go_num, by omega, by simp only [List.length_set]; exact hy, ⟨?_, HS.out⟩, ?_⟩
        · exact ((HO.out.1.set (by omega) q).set (by rw [List.length_set]; omega) p).drew
        · exact ((HA.out.set4 _ _ _ _ _ _ _ _).set4 _ _ _ _ _ _ _ _).drew
      case measure => simp [intOf]; omega
    · obtain rfl : k = m := by omega
      have hkI : ¬ (k : Int) < (k : Int) := by omega
      go_wp2_with fail
      go_end0
      refine ⟨rfl, HA.out, ?_⟩
      rw [show y' = y from List.ext_getElem? fun i => by rw [HY'.out, HO.out.2]]
      exact HO.out.1

set_option maxRecDepth 100000 in
set_option maxHeartbeats 1600000 in
theorem rotate13_a (B off n cap a m b i0 j0 : Nat) (L L' : List Pk_a) (hR : Rot_a m n L' i0 j0 L) (ha : a + i0 = m) (hb : m + j0 = b) (hi : 1 ≤ i0) (hj : 1 ≤ j0) (c : Value) (w : World) (h : PkO_a w B off L) (hn : n ≤ 1000) :
    Calls Tryz.prog 107 #[.slice (some ⟨B, off, none⟩) n cap, .int .i64 a, .int .i64 m, .int .i64 b, c] w (Sorts_a B off L' w) := by
  have H := Lib.hid (And.intro h hR)
  have hbd := hR.bounds
  have eI : (m : Int) - (a : Int) = (i0 : Int) := by omega
  have eJ : (b : Int) - (m : Int) = (j0 : Int) := by omega
  have HAB := Lib.hid (And.intro ha hb)
  have hm1 : m ≤ 1000 := by omega
  have hb1 : b ≤ 1000 := by omega
  have ha1 : a ≤ 1000 := by omega
  clear h hR ha hb hbd
  go_enter Tryz.func107, Tryz.ntmps107
  go_wp2_with fail
  go_loopw [10, 11] (fun s10 s11 wx => ∃ (i j : Nat) (y : List Pk_a), s10 = .int .i64 i ∧ s11 = .int .i64 j ∧ 1 ≤ i ∧ 1 ≤ j ∧ Hid (PkO_a wx B off y ∧ Rot_a m n L' i j y) ∧ Hid (Apart B w wx)) (fun s10 s11 _ => (intOf s10).toNat + (intOf s11).toNat)
  case atStart => exact ⟨i0, j0, L, by first | rfl | rw [eI], by first | rfl | rw [eJ], hi, hj, H, Apart.refl _ _⟩
  case round =>
    obtain ⟨i, j, y, rfl, rfl, h1, h2, HO, HA⟩ := hrel
    obtain ⟨wk, rfl⟩ : ∃ u : World, u = wr := ⟨_, rfl⟩
    obtain ⟨b1, b2, b3⟩ := HO.out.2.bounds
    have hi3 : i ≤ 1000 := by omega
    have hj3 : j ≤ 1000 := by omega
    rcases Nat.lt_trichotomy i j with hij | hij | hij
    · obtain ⟨y', hy', hR'⟩ := HO.out.2.right hij
      have hc := swapRange13_a B off n cap (m - i) (m + j - i) i y y' b3 c wk HO.out.1 (by omega) (by omega) hn hy'
      rw [show ((m - i : Nat) : Int) = (m : Int) - (i : Int) by omega, show ((m + j - i : Nat) : Int) = (m : Int) + (j : Int) - (i : Int) by omega] at hc
      have HR := Lib.hid hR'
      have d1 : ¬ (i : Int) = (j : Int) := by omega
      have d2 : ¬ (j : Int) < (i : Int) := by omega
      clear hy' hR'
      go_wp2_with fail
      refine hc.mono ?_
      clear hc
      rintro e w1 ⟨rfl, ha1, ho1⟩
      have HS1 := Lib.hid (And.intro ha1 ho1)
      clear ha1 ho1
      go_wp2_with fail
      go_roundw
      case rel => exact ⟨i, j - i, y', by go_num, by congr 1; omega, h1, by omega, ⟨HS1.out.2, HR.out⟩, HA.out.trans HS1.out.1⟩
      case measure => simp [intOf]; omega
    · subst hij
      have hc := swapRange13_a B off n cap (m - i) m i y L' b3 c wk HO.out.1 (by omega) (by omega) hn HO.out.2.last
      rw [show ((m - i : Nat) : Int) = (m : Int) - (i : Int) by omega] at hc
      go_wp2_with fail
      refine hc.mono ?_
      clear hc
      rintro e w1 ⟨rfl, ha1, ho1⟩
      have HS1 := Lib.hid (And.intro ha1 ho1)
      clear ha1 ho1
      go_wp2_with fail
      go_end0
      exact ⟨rfl, HA.out.trans HS1.out.1, HS1.out.2⟩
    · obtain ⟨y', hy', hR'⟩ := HO.out.2.left hij
      have hc := swapRange13_a B off n cap (m - i) m j y y' b3 c wk HO.out.1 (by omega) (by omega) hn hy'
      rw [show ((m - i : Nat) : Int) = (m : Int) - (i : Int) by omega] at hc
      have HR := Lib.hid hR'
      have d1 : ¬ (i : Int) = (j : Int) := by omega
      have d2 : (j : Int) < (i : Int) := by omega
      clear hy' hR'
      go_wp2_with fail
      refine hc.mono ?_
      clear hc
      rintro e w1 ⟨rfl, ha1, ho1⟩
      have HS1 := Lib.hid (And.intro ha1 ho1)
      clear ha1 ho1
      go_wp2_with fail
      go_roundw
      case rel => exact ⟨i - j, j, y', by congr 1; omega, by go_num, by omega, h2, ⟨HS1.out.2, HR.out⟩, HA.out.trans HS1.out.1⟩
      case measure => simp [intOf]; omega

end Go.Proofs.YtkienpbmoilheaaGreat

namespace Go.Proofs.YtkienpbmoilheaaGreat
open Go.RowKit Go.Sort
set_option linter.unusedSimpArgs false
set_option linter.unusedVariables false


set_option maxRecDepth 100000 in
set_option maxHeartbeats 800000 in
/-- The closure of Order: it boxes its packets. -/
theorem cmp13_a (x y : Pk_a) (w : World) : Calls Tryz.prog 68 #[.agg #[.int .i64 x.f, .int .i64 x.t, .int .i64 x.s, .int .i64 x.i], .agg #[.int .i64 y.f, .int .i64 y.t, .int .i64 y.s, .int .i64 y.i]] w fun e w' => e = .returned (.int .i64 (sgn x.t y.t)) ∧ ∃ q os', w' = grow (w.drewN q) os' := by
  go_enter Tryz.func68, Tryz.ntmps68
  go_wp2_with fail
  refine (compare13 x.t y.t _).mono ?_
  rintro e w1 ⟨rfl, rfl⟩
  go_wp2_with fail
  go_ret
  exact ⟨rfl, 0, #[_, _], by rw [alloc_eq_grow, alloc_eq_grow, grow_grow]; rfl⟩

theorem PkO_a.grown {u : World} {B off : Nat} {l : List Pk_a} (h : PkO_a u B off l) (n : Nat) (os : Array Obj) : PkO_a (grow (u.drewN n) os) B off l := h.under (below_grown u n os)
theorem PkO_a.gcells {u : World} {B off : Nat} {l : List Pk_a} (h : PkO_a u B off l) {k : Nat} {q : Pk_a} (hq : l[k]? = some q) :
    (∀ n os, (grow (u.drewN n) os).cell? ⟨B, off + k * 4, none⟩ = some (.int .i64 q.f)) ∧ (∀ n os, (grow (u.drewN n) os).cell? ⟨B, off + k * 4 + 1, none⟩ = some (.int .i64 q.t)) ∧ (∀ n os, (grow (u.drewN n) os).cell? ⟨B, off + k * 4 + 2, none⟩ = some (.int .i64 q.s)) ∧ (∀ n os, (grow (u.drewN n) os).cell? ⟨B, off + k * 4 + 3, none⟩ = some (.int .i64 q.i)) :=
  ⟨fun n os => ((h.grown n os).cells k q hq).1, fun n os => ((h.grown n os).cells k q hq).2.1, fun n os => ((h.grown n os).cells k q hq).2.2.1, fun n os => ((h.grown n os).cells k q hq).2.2.2⟩
theorem cmp13_g_a (x y : Pk_a) (u : World) (n : Nat) (os : Array Obj) : Calls Tryz.prog 68 #[.agg #[.int .i64 x.f, .int .i64 x.t, .int .i64 x.s, .int .i64 x.i], .agg #[.int .i64 y.f, .int .i64 y.t, .int .i64 y.s, .int .i64 y.i]] (grow (u.drewN n) os) fun e w' => e = .returned (.int .i64 (sgn x.t y.t)) ∧ ∃ q os', w' = grow ((grow (u.drewN n) os).drewN q) os' := cmp13_a x y _

set_option maxRecDepth 100000 in
set_option maxHeartbeats 12800000 in
theorem insertion13_a (B off n cap a b : Nat) (L L' : List Pk_a) (hI : InsO_a L' a b n 1 L) (w : World) (h : PkO_a w B off L) (hn : n ≤ 1000) (hab : a ≤ b) :
    Calls Tryz.prog 101 #[.slice (some ⟨B, off, none⟩) n cap, .int .i64 a, .int .i64 b, .func (.func 68) #[] #[]] w (Sorts_a B off L' w) := by
  have H := Lib.hid (And.intro h hI)
  have hbn := hI.len.2
  have eg : ∀ args w, (callFunc 68 args).run Tryz.prog w = .ok (.enter 68 args) w := enters_of Tryz.func68 (by kernel_rfl) rfl
  have mixed : Tryz.prog.follows .mixedOrders = true := by kernel_rfl
  clear h hI
  go_enter Tryz.func101, Tryz.ntmps101
  go_wp2_with fail
  go_loopw [8] (fun vi wx => ∃ (i t : Nat) (y : List Pk_a), vi = .int .i64 i ∧ i = a + t ∧ i ≤ b + 1 ∧ Hid (PkO_a wx B off y ∧ InsO_a L' a b n t y) ∧ Hid (Apart B w wx)) (fun vi _ => b + 1 - (intOf vi).toNat)
  case atStart => exact ⟨a + 1, 1, L, by go_num, rfl, by omega, H, Apart.refl _ _⟩
  case round =>
    obtain ⟨i, t, y, rfl, hit, hib, HO, HA⟩ := hrel
    obtain ⟨wk, rfl⟩ : ∃ u : World, u = wr := ⟨_, rfl⟩
    by_cases hlt : i < b
    · have hlI : (i : Int) < (b : Int) := by omega
      obtain ⟨x, L1, hL1, hO1⟩ := HO.out.2.next (by omega)
      rw [← hit] at hL1
      have H1 := Lib.hid hO1
      have HI := Lib.hid (And.intro HO.out.1 hL1)
      have HIT := Lib.hid hit
      have hin : i < n := hL1.bounds.2.1
      clear hL1 hO1 HO hit
      go_wp2_with fail
      go_loopw [9] (fun vj wx => ∃ (j : Nat) (y : List Pk_a), vj = .int .i64 j ∧ j ≤ i ∧ Hid (PkO_a wx B off y ∧ InsL_a L1 a n j y x) ∧ Hid (Apart B w wx)) (fun vj _ => (intOf vj).toNat)
      case atStart => exact ⟨i, y, rfl, Nat.le_refl _, HI, HA⟩
      case round =>
        obtain ⟨j, z, rfl, hji, HJ, HB⟩ := hrel
        obtain ⟨wj, rfl⟩ : ∃ u : World, u = wr := ⟨_, rfl⟩
        obtain ⟨ba, bj, bz, bx⟩ := HJ.out.2.bounds
        have HX := Lib.hid bx
        have HZ := Lib.hid bz
        clear bx bz
        by_cases hja : a < j
        · obtain ⟨m, rfl⟩ : ∃ m, j = m + 1 := ⟨j - 1, by omega⟩
          obtain ⟨p, hp⟩ : ∃ p, z[m]? = some p := ⟨_, List.getElem?_eq_getElem (by rw [HZ.out]; omega)⟩
          obtain ⟨c0, c1, c2, c3⟩ := HJ.out.1.gcells HX.out
          obtain ⟨d0, d1, d2, d3⟩ := HJ.out.1.gcells hp
          have hjI : (a : Int) < (m : Int) + 1 := by omega
          have hmn : (m : Int) + 1 < (n : Int) := by omega
          have hmn2 : (m : Int) < (n : Int) := by omega
          have e0 : ((m : Int) + 1).toNat = m + 1 := by omega
          have p0 : (0 : Int) ≤ (m : Int) + 1 := by omega
          have hwp : IntKind.i64.wrap (m : Int) = (m : Int) := IntWalk.i64_in _ ⟨by omega, by omega⟩
          have hcg := cmp13_g_a x p wj
          have HP := Lib.hid hp
          clear hp
          by_cases hlv : x.t < p.t
          · have hs := sgn_lt hlv
            have hst := Lib.hid (HJ.out.2.step (by omega) HP.out hlv)
            generalize sgn x.t p.t = sg at hs hcg
            go_wp2_with fail
            go_quiet_grown (first | (go_at_fn 68; refine Calls.grown_of (hcg _ _)) | (go_at_call 68; refine Calls.grown_of (hcg _ _)))
            have HW2 := Lib.hid (And.intro (HJ.out.1.grown nq osq) (HB.out.trans (below_apart (below_grown wj nq osq))))
            clear c0 c1 c2 c3 d0 d1 d2 d3 hcg
            generalize grow (wj.drewN nq) osq = wq at HW2 ⊢
            obtain ⟨c0, c1, c2, c3⟩ := HW2.out.1.cells _ _ HX.out
            obtain ⟨d0, d1, d2, d3⟩ := HW2.out.1.cells _ _ HP.out
            have hf := HW2.out.1.frozen
            have gg0 : ¬ off + (m + 1) * 4 + 1 = off + m * 4 := by omega
            have gg1 : ¬ off + (m + 1) * 4 = off + m * 4 + 1 := by omega
            have gg2 : ¬ off + (m + 1) * 4 + 2 = off + m * 4 := by omega
            have gg3 : ¬ off + (m + 1) * 4 = off + m * 4 + 2 := by omega
            have gg4 : ¬ off + (m + 1) * 4 + 3 = off + m * 4 := by omega
            have gg5 : ¬ off + (m + 1) * 4 = off + m * 4 + 3 := by omega
            have gg6 : ¬ off + m * 4 + 1 = off + (m + 1) * 4 := by omega
            have gg7 : ¬ off + m * 4 = off + (m + 1) * 4 + 1 := by omega
            have gg8 : ¬ off + m * 4 + 2 = off + (m + 1) * 4 := by omega
            have gg9 : ¬ off + m * 4 = off + (m + 1) * 4 + 2 := by omega
            have gg10 : ¬ off + m * 4 + 3 = off + (m + 1) * 4 := by omega
            have gg11 : ¬ off + m * 4 = off + (m + 1) * 4 + 3 := by omega
            go_wp2_with fail
            go_region
            all_goals go_wp2_with fail
            go_roundw
            case rel =>
              refine ⟨m, (z.set (m + 1) p).set m x, by go_num, by omega, ⟨?_, hst.out⟩, ?_⟩
              · exact ((HW2.out.1.set (by rw [HZ.out]; omega) p).set (by rw [List.length_set, HZ.out]; omega) x).drew
              · exact ((HW2.out.2.set4 _ _ _ _ _ _ _ _).set4 _ _ _ _ _ _ _ _).drew
            case measure => first | (simp [intOf]; done) | (simp [intOf]; omega)
          · have hs := sgn_ge hlv
            have hst := Lib.hid (HJ.out.2.stop (.inr ⟨p, HP.out, hlv⟩))
            generalize sgn x.t p.t = sg at hs hcg
            go_wp2_with fail
            go_quiet_grown (first | (go_at_fn 68; refine Calls.grown_of (hcg _ _)) | (go_at_call 68; refine Calls.grown_of (hcg _ _)))
            have HW2 := Lib.hid (And.intro (HJ.out.1.grown nq osq) (HB.out.trans (below_apart (below_grown wj nq osq))))
            clear c0 c1 c2 c3 d0 d1 d2 d3 hcg
            generalize grow (wj.drewN nq) osq = wq at HW2 ⊢
            go_wp2_with fail
            go_roundw
            case rel => exact ⟨i + 1, t + 1, L1, by go_num, by have := HIT.out; omega, by omega, ⟨by rw [← hst.out]; exact HW2.out.1, H1.out⟩, HW2.out.2⟩
            case measure => first | (simp [intOf]; done) | (simp [intOf]; omega)
        · have hst := Lib.hid (HJ.out.2.stop (.inl (by omega)))
          have hjI : ¬ (a : Int) < (j : Int) := by omega
          go_wp2_with fail
          go_quiet (fail)
          go_wp2_with fail
          go_roundw
          case rel => exact ⟨i + 1, t + 1, L1, by go_num, by have := HIT.out; omega, by omega, ⟨by rw [← hst.out]; exact HJ.out.1.drewN _, H1.out⟩, HB.out.drewN _⟩
          case measure => first | (simp [intOf]; done) | (simp [intOf]; omega)
    · have hlI : ¬ (i : Int) < (b : Int) := by omega
      go_wp2_with fail
      go_end0
      refine ⟨rfl, HA.out, ?_⟩
      rw [← HO.out.2.fin (by omega)]
      exact HO.out.1

end Go.Proofs.YtkienpbmoilheaaGreat
