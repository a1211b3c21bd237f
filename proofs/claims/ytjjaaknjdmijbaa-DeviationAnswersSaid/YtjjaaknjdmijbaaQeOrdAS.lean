/- Contracts of package order's small functions: value, leastMultiple, at, and the two closures. By the verifier's side. | Contracts of package order: subtract, firstPositive, settledBeforeStart. By the verifier's side. | Contracts of package order: firstPositive, settledBeforeStart. By the verifier's side. | Contracts of package order: Exceeds, AtMost, Settles, Meets. By the verifier's side. | The examples of chapter 4 (awake), and value. By the verifier's side. | Contracts of the document's comparisons. By the verifier's side. | Contracts of the document's Settles, Meets and AtMost. By the verifier's side. -/
import Derived.Test.YtjjaaknjdmijbaaQeCurMCurNOrdM
import Derived.Test.YtjjaaknjdmijbaaQeRefVRefA
import Derived.Test.YtjjaaknjdmijbaaQeNumCurT
import Derived.Deep.RegionHeld3
import Derived.Test.YtjjaaknjdmijbaaQeBentE
import Derived.RegionTactic
import Derived.StillTailTactics
import Derived.Test.YtjjaaknjdmijbaaQeCurSToCurveNormalW
import Derived.Test.YtjjaaknjdmijbaaQeRefO
namespace Go.Proofs.Ytjjaaknjdmijbaa
open Go.RowKit
set_option linter.unusedSimpArgs false

/-- Block b holds two curves and three numbers, and may be written. -/
structure Dif (w : World) (b : Nat) (x0 x1 x2 y0 y1 y2 z0 z1 z2 : Value) : Prop where
  lo : Cur3 w b x0 x1 x2
  c3 : w.cell? ⟨b, 3, none⟩ = some y0
  c4 : w.cell? ⟨b, 4, none⟩ = some y1
  c5 : w.cell? ⟨b, 5, none⟩ = some y2
  c6 : w.cell? ⟨b, 6, none⟩ = some z0
  c7 : w.cell? ⟨b, 7, none⟩ = some z1
  c8 : w.cell? ⟨b, 8, none⟩ = some z2
  f3 : w.frozen? ⟨b, 3, none⟩ = false
  f4 : w.frozen? ⟨b, 4, none⟩ = false
  f5 : w.frozen? ⟨b, 5, none⟩ = false
  f6 : w.frozen? ⟨b, 6, none⟩ = false
  f7 : w.frozen? ⟨b, 7, none⟩ = false
  f8 : w.frozen? ⟨b, 8, none⟩ = false
section
variable {w w' : World} {b : Nat} {x0 x1 x2 y0 y1 y2 z0 z1 z2 : Value}
theorem Dif.lt (h : Dif w b x0 x1 x2 y0 y1 y2 z0 z1 z2) : b < w.heap.size := h.lo.lt
theorem Dif.below (h : Dif w b x0 x1 x2 y0 y1 y2 z0 z1 z2) (hb : Below w.heap.size w w') : Dif w' b x0 x1 x2 y0 y1 y2 z0 z1 z2 :=
  ⟨h.lo.below hb, (hb.cell (p := ⟨b, 3, none⟩) h.lt).trans h.c3, (hb.cell (p := ⟨b, 4, none⟩) h.lt).trans h.c4, (hb.cell (p := ⟨b, 5, none⟩) h.lt).trans h.c5,
    (hb.cell (p := ⟨b, 6, none⟩) h.lt).trans h.c6, (hb.cell (p := ⟨b, 7, none⟩) h.lt).trans h.c7, (hb.cell (p := ⟨b, 8, none⟩) h.lt).trans h.c8,
    (hb.frozen (p := ⟨b, 3, none⟩) h.lt).trans h.f3, (hb.frozen (p := ⟨b, 4, none⟩) h.lt).trans h.f4, (hb.frozen (p := ⟨b, 5, none⟩) h.lt).trans h.f5,
    (hb.frozen (p := ⟨b, 6, none⟩) h.lt).trans h.f6, (hb.frozen (p := ⟨b, 7, none⟩) h.lt).trans h.f7, (hb.frozen (p := ⟨b, 8, none⟩) h.lt).trans h.f8⟩
theorem Dif.alloc (h : Dif w b x0 x1 x2 y0 y1 y2 z0 z1 z2) (o : Obj) : Dif (w.alloc o) b x0 x1 x2 y0 y1 y2 z0 z1 z2 := h.below ((Below.refl _ _).alloc (Nat.le_refl _) o)
theorem Dif.drewN (h : Dif w b x0 x1 x2 y0 y1 y2 z0 z1 z2) (n : Nat) : Dif (w.drewN n) b x0 x1 x2 y0 y1 y2 z0 z1 z2 := h.below ((Below.refl _ _).drewN n)
theorem Dif.other (h : Dif w b x0 x1 x2 y0 y1 y2 z0 z1 z2) {q : Nat} (hq : ¬ b = q) (i : Nat) (v : Value) : Dif (w.setCell ⟨q, i, none⟩ v) b x0 x1 x2 y0 y1 y2 z0 z1 z2 := by
  have hb : (w.setCell ⟨q, i, none⟩ v).heap[b]? = w.heap[b]? := Below.heap_setCell _ _ _ _ hq
  exact ⟨h.lo.other hq i v, (World.cell?_of_block (w := w) (a := ⟨b, 3, none⟩) hb).trans h.c3, (World.cell?_of_block (w := w) (a := ⟨b, 4, none⟩) hb).trans h.c4, (World.cell?_of_block (w := w) (a := ⟨b, 5, none⟩) hb).trans h.c5,
    (World.cell?_of_block (w := w) (a := ⟨b, 6, none⟩) hb).trans h.c6, (World.cell?_of_block (w := w) (a := ⟨b, 7, none⟩) hb).trans h.c7, (World.cell?_of_block (w := w) (a := ⟨b, 8, none⟩) hb).trans h.c8,
    (World.frozen?_of_block (w := w) (a := ⟨b, 3, none⟩) hb).trans h.f3, (World.frozen?_of_block (w := w) (a := ⟨b, 4, none⟩) hb).trans h.f4, (World.frozen?_of_block (w := w) (a := ⟨b, 5, none⟩) hb).trans h.f5,
    (World.frozen?_of_block (w := w) (a := ⟨b, 6, none⟩) hb).trans h.f6, (World.frozen?_of_block (w := w) (a := ⟨b, 7, none⟩) hb).trans h.f7, (World.frozen?_of_block (w := w) (a := ⟨b, 8, none⟩) hb).trans h.f8⟩
end

section
variable {W u v : World} {b : Nat} {x0 x1 x2 y0 y1 y2 z0 z1 z2 : Value}
end

end Go.Proofs.Ytjjaaknjdmijbaa

namespace Go.Proofs.Ytjjaaknjdmijbaa
open Go.RowKit
set_option linter.unusedSimpArgs false

theorem finB_of {zs : List Int} {p : Nat} {inc : Int} (g : Good zs p inc) : finB zs p inc = true ↔ ¬ InfC zs := by
  unfold finB InfC; rw [(okC_iff zs p inc).2 g]; simp

end Go.Proofs.Ytjjaaknjdmijbaa

namespace Go.Proofs.Ytjjaaknjdmijbaa
open Go.RowKit
set_option linter.unusedSimpArgs false

/-- What is known of a difference that stands in block b of a world: both lists, and the numbers. -/
structure DifOk (w : World) (a : Option Addr) (n cap : Nat) (zs : List Int) (p : Nat) (inc : Int) (a2 : Option Addr) (n2 cap2 : Nat) (ys : List Int) (q : Nat) (jnc : Int) (S L : Nat) : Prop where
  g : Good zs p inc
  k : Good ys q jnc
  r : RowZ w a n cap zs
  r2 : RowZ w a2 n2 cap2 ys
  s : max (n - p) (n2 - q) = S
  l : p / Nat.gcd p q * q = L
section
variable {w w' : World} {a : Option Addr} {n cap : Nat} {zs : List Int} {p : Nat} {inc : Int} {a2 : Option Addr} {n2 cap2 : Nat} {ys : List Int} {q : Nat} {jnc : Int} {S L : Nat}
theorem DifOk.under (h : DifOk w a n cap zs p inc a2 n2 cap2 ys q jnc S L) (hb : Below w.heap.size w w') : DifOk w' a n cap zs p inc a2 n2 cap2 ys q jnc S L := ⟨h.g, h.k, h.r.under hb, h.r2.under hb, h.s, h.l⟩
theorem DifOk.lcm (h : DifOk w a n cap zs p inc a2 n2 cap2 ys q jnc S L) : Lcm p q L := lcm_of h.g.p1 h.k.p1 h.l
theorem DifOk.small (h : DifOk w a n cap zs p inc a2 n2 cap2 ys q jnc S L) : S ≤ 400 ∧ 1 ≤ L ∧ L ≤ 14400 := by
  have h1 := h.s; have h2 := h.r.len; have h3 := h.r2.len; have h4 := h.g.few; have h5 := h.k.few
  exact ⟨by omega, h.lcm.one, Nat.le_trans h.lcm.le (Nat.mul_le_mul h.g.p2 h.k.p2)⟩
theorem DifOk.exact (h : DifOk w a n cap zs p inc a2 n2 cap2 ys q jnc S L) (hc : ¬ growC zs p inc ys q jnc L = 0) (t : Nat) : dC zs p inc ys q jnc t = atC zs p inc t - atC ys q jnc t :=
  dC_fin (growC_ne h.g h.k hc).1 (growC_ne h.g h.k hc).2 t
end

end Go.Proofs.Ytjjaaknjdmijbaa

namespace Go.Proofs.Ytjjaaknjdmijbaa
open Go.RowKit
set_option linter.unusedSimpArgs false

section
variable (a : Option Addr) (n cap : Nat) (zs : List Int) (p inc : Int) (hp : In64 p) (hi : In64 inc) (a2 : Option Addr) (n2 cap2 : Nat) (ys : List Int) (q jnc : Int) (hq : In64 q) (hj : In64 jnc)
    (hv : okC zs p inc = false ∨ okC ys q jnc = false) (w : World) (h : RowZ w a n cap zs) (h2 : RowZ w a2 n2 cap2 ys)
include hp hi hq hj hv h h2
end

section
variable (a : Option Addr) (n cap : Nat) (zs : List Int) (p : Nat) (inc : Int) (g : Good zs p inc) (a2 : Option Addr) (n2 cap2 : Nat) (ys : List Int) (q : Nat) (jnc : Int) (k : Good ys q jnc) (t : Int) (ok : Bool)
    (w : World) (h : RowZ w a n cap zs) (h2 : RowZ w a2 n2 cap2 ys)

include g k h h2
end
end Go.Proofs.Ytjjaaknjdmijbaa

namespace Go.Proofs.Ytjjaaknjdmijbaa
open Go.RowKit
set_option linter.unusedSimpArgs false

end Go.Proofs.Ytjjaaknjdmijbaa

namespace Go.Proofs.Ytjjaaknjdmijbaa
open Go.RowKit
set_option linter.unusedSimpArgs false

/-- What the document's loop over the residue classes has found. -/
def MinJ (d : Nat → Int) (S L : Nat) (c : Int) (r : Nat) (x : Int) : Prop :=
  (r = 0 ∧ x = -1) ∨ (0 ≤ x ∧ (∀ s, s < r → x ≤ farT d S L c s) ∧ ∃ s, s < r ∧ x = farT d S L c s)
theorem MinJ.first {d : Nat → Int} {S L : Nat} {c : Int} {r : Nat} {x y : Int} (h : MinJ d S L c r x) (hy : farT d S L c r = y) (hx : x < 0) (hy0 : 0 ≤ y := by omega) : MinJ d S L c (r + 1) y := by
  rcases h with ⟨rfl, rfl⟩ | ⟨h0, _⟩
  · exact .inr ⟨hy0, fun s hs => by obtain rfl : s = 0 := by omega
                                    omega, 0, by omega, hy.symm⟩
  · omega
theorem MinJ.last {d : Nat → Int} {S L : Nat} {c : Int} {x : Int} (h : MinJ d S L c L x) (hL : 1 ≤ L) : (∀ r, r < L → x ≤ farT d S L c r) ∧ ∃ r, r < L ∧ x = farT d S L c r := by
  rcases h with ⟨h0, _⟩ | ⟨_, h1, h2⟩
  · omega
  · exact ⟨h1, h2⟩

section
variable (a : Option Addr) (n cap : Nat) (zs : List Int) (p : Nat) (inc : Int) (g : Good zs p inc) (a2 : Option Addr) (n2 cap2 : Nat) (ys : List Int) (q : Nat) (jnc : Int) (k : Good ys q jnc) (t : Int) (ok : Bool)
    (w : World) (h : RowZ w a n cap zs) (h2 : RowZ w a2 n2 cap2 ys)
include g k h h2

end
end Go.Proofs.Ytjjaaknjdmijbaa

namespace Go.Proofs.Ytjjaaknjdmijbaa
open Go.RowKit
set_option linter.unusedSimpArgs false

/-- What the document's loop over the ticks has found: T is behind all positive ticks that it has seen, those of their residue classes counted with them. -/
def LastI (d : Nat → Int) (m L j T : Nat) : Prop :=
  (j ≤ m ∧ (∀ u, u < j → T ≤ u → d u ≤ 0) ∧ (T = 0 ∨ 0 < d (T - 1))) ∨ (m ≤ j ∧ SetI d m L (j - m) T)
theorem LastI.set {d : Nat → Int} {m L j T : Nat} (h : LastI d m L j T) (hj : m ≤ j) : SetI d m L (j - m) T := by
  rcases h with ⟨h0, h1, h2⟩ | ⟨_, h⟩
  · obtain rfl : j = m := by omega
    rw [Nat.sub_self]
    exact SetI.start (fun u hu ht => by have := h1 u hu ht; omega) h2
  · exact h
theorem LastI.early {d : Nat → Int} {m L j T : Nat} (h : LastI d m L j T) (hj : j < m) : (∀ u, u < j → T ≤ u → d u ≤ 0) ∧ (T = 0 ∨ 0 < d (T - 1)) := by
  rcases h with ⟨_, h1, h2⟩ | ⟨h0, _⟩
  · exact ⟨h1, h2⟩
  · omega
theorem LastI.seen {d : Nat → Int} {m L j T T' : Nat} (h : LastI d m L j T) (hj : j < m) (hd : 0 < d j) (hT : (T' : Int) = max (T : Int) ((j : Int) + 1)) : LastI d m L (j + 1) T' := by
  obtain ⟨h1, h2⟩ := h.early hj
  refine .inl ⟨by omega, fun u hu ht => ?_, ?_⟩
  · exact h1 u (by omega) (by omega)
  · by_cases he : T' = j + 1
    · subst he; exact .inr (by rw [Nat.add_sub_cancel]; exact hd)
    · obtain rfl : T' = T := by omega
      exact h2
section
variable (a : Option Addr) (n cap : Nat) (zs : List Int) (p : Nat) (inc : Int) (g : Good zs p inc) (a2 : Option Addr) (n2 cap2 : Nat) (ys : List Int) (q : Nat) (jnc : Int) (k : Good ys q jnc) (t : Int) (ok : Bool)
    (w : World) (h : RowZ w a n cap zs) (h2 : RowZ w a2 n2 cap2 ys)
include g k h h2

end
end Go.Proofs.Ytjjaaknjdmijbaa
