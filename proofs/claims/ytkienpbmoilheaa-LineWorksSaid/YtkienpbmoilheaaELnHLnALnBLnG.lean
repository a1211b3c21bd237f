/- What lies in memory while a line runs. By the verifier's side. -/
import Derived.Test.YtkienpbmoilheaaELnMLnW
import Derived.Test.YtkienpbmoilheaaETrETrF
namespace Go.Proofs.Ytkienpbmoilheaa
open Go.RowKit
set_option linter.unusedSimpArgs false
set_option linter.unusedVariables false

/-- A block whose first N cells are numbers. -/
def SumC (W : World) (M N : Nat) (F : Nat → Int) : Prop := ∃ cs ty, W.heap[M]? = some (.cells cs ty (0, 0)) ∧ N ≤ cs.size ∧ ∀ k, k < N → cs[k]? = some (.int .i64 (F k))
section
variable {W V : World} {M N : Nat} {F G : Nat → Int}
theorem SumC.lt (h : SumC W M N F) : M < W.heap.size := by obtain ⟨cs, ty, h1, _⟩ := h; exact (Array.getElem?_eq_some_iff.1 h1).1
theorem SumC.cell (h : SumC W M N F) {k : Nat} (hk : k < N) : W.cell? ⟨M, k, none⟩ = some (.int .i64 (F k)) := by
  obtain ⟨cs, ty, h1, h2, h3⟩ := h
  rw [← h3 k hk]; simp [World.cell?, h1]
theorem SumC.frozen (h : SumC W M N F) (o : Nat) : W.frozen? ⟨M, o, none⟩ = false := by
  obtain ⟨cs, ty, h1, h2, h3⟩ := h
  simp [World.frozen?, h1]
theorem SumC.of_block (h : SumC W M N F) (hb : V.heap[M]? = W.heap[M]?) : SumC V M N F := by obtain ⟨cs, ty, h1, h2⟩ := h; exact ⟨cs, ty, hb.trans h1, h2⟩
theorem SumC.under (h : SumC W M N F) (hb : Below W.heap.size W V) : SumC V M N F := h.of_block (hb.block _ h.lt)
theorem SumC.alloc (h : SumC W M N F) (o : Obj) : SumC (W.alloc o) M N F := h.under ((Below.refl _ _).alloc (Nat.le_refl _) _)
theorem SumC.congr (h : SumC W M N F) (he : ∀ k, k < N → F k = G k) : SumC W M N G := by obtain ⟨cs, ty, h1, h2, h3⟩ := h; exact ⟨cs, ty, h1, h2, fun k hk => by rw [h3 k hk, he k hk]⟩
theorem SumC.set (h : SumC W M N F) (j : Nat) (v : Int) : SumC (W.setCell ⟨M, j, none⟩ (.int .i64 v)) M N (fun k => if k = j then v else F k) := by
  obtain ⟨cs, ty, h1, h2, h3⟩ := h
  refine ⟨cs.setIfInBounds j (.int .i64 v), ty, block_set j _ h1, by simpa using h2, fun k hk => ?_⟩
  show _ = some (Value.int .i64 (if k = j then v else F k))
  by_cases e : k = j
  · subst e; rw [if_pos rfl, Array.getElem?_setIfInBounds_self_of_lt (by omega)]
  · rw [if_neg e, Array.getElem?_setIfInBounds_ne (fun h => e h.symm)]; exact h3 k hk
theorem SumC.other (h : SumC W M N F) {q : Nat} (hq : M ≠ q) (i : Nat) (v : Value) : SumC (W.setCell ⟨q, i, none⟩ v) M N F := h.of_block (Below.heap_setCell _ _ _ _ hq)
theorem SumC.row (h : SumC W M N F) {n cap : Nat} {zs : List Int} (hn : n ≤ N) (hl : zs.length = n) (hc : n ≤ cap) (hs : n ≤ 1000000) (hcm : cap ≤ 9223372036854775807) (hz : ∀ k, k < n → zs.getD k 0 = F k) (hb : ∀ k, k < n → In64 (F k)) : RowZ W (some ⟨M, 0, none⟩) n cap zs :=
  ⟨hl, hc, by omega, hcm, fun i hi => ⟨_, rfl, by
    have ea : ((⟨M, 0, none⟩ : Addr).add i) = ⟨M, i, none⟩ := by unfold Addr.add; split <;> simp_all
    rw [ea, h.cell (by omega), hz i hi]⟩, fun i hi => by rw [hz i hi]; exact hb i hi⟩
end
/-- A block of m slices: the c-th reads the N numbers of the block Z + c. -/
def SlcC (W : World) (S Z m N : Nat) : Prop := ∃ cs ty, W.heap[S]? = some (.cells cs ty (0, 0)) ∧ m ≤ cs.size ∧ ∀ c, c < m → cs[c]? = some (.slice (some ⟨Z + c, 0, none⟩) N N)
section
variable {W V : World} {S Z m N : Nat}
theorem SlcC.lt (h : SlcC W S Z m N) : S < W.heap.size := by obtain ⟨cs, ty, h1, _⟩ := h; exact (Array.getElem?_eq_some_iff.1 h1).1
theorem SlcC.cell (h : SlcC W S Z m N) {c : Nat} (hc : c < m) : W.cell? ⟨S, c, none⟩ = some (.slice (some ⟨Z + c, 0, none⟩) N N) := by
  obtain ⟨cs, ty, h1, h2, h3⟩ := h
  rw [← h3 c hc]; simp [World.cell?, h1]
theorem SlcC.of_block (h : SlcC W S Z m N) (hb : V.heap[S]? = W.heap[S]?) : SlcC V S Z m N := by obtain ⟨cs, ty, h1, h2⟩ := h; exact ⟨cs, ty, hb.trans h1, h2⟩
theorem SlcC.under (h : SlcC W S Z m N) (hb : Below W.heap.size W V) : SlcC V S Z m N := h.of_block (hb.block _ h.lt)
theorem SlcC.other (h : SlcC W S Z m N) {q : Nat} (hq : S ≠ q) (i : Nat) (v : Value) : SlcC (W.setCell ⟨q, i, none⟩ v) S Z m N := h.of_block (Below.heap_setCell _ _ _ _ hq)
end
/-- The state of a line in its block. -/
def StC (W : World) (X : Nat) (x0 x1 x2 x3 x4 : Value) : Prop := ∃ ty, W.heap[X]? = some (.cells #[x0, x1, x2, x3, x4] ty (0, 0))
section
variable {W V : World} {X : Nat} {x0 x1 x2 x3 x4 : Value}
theorem StC.lt (h : StC W X x0 x1 x2 x3 x4) : X < W.heap.size := by obtain ⟨ty, h1⟩ := h; exact (Array.getElem?_eq_some_iff.1 h1).1
theorem StC.cells (h : StC W X x0 x1 x2 x3 x4) : W.cell? ⟨X, 0, none⟩ = some x0 ∧ W.cell? ⟨X, 1, none⟩ = some x1 ∧ W.cell? ⟨X, 2, none⟩ = some x2 ∧ W.cell? ⟨X, 3, none⟩ = some x3 ∧ W.cell? ⟨X, 4, none⟩ = some x4 := by
  obtain ⟨ty, h1⟩ := h
  refine ⟨?_, ?_, ?_, ?_, ?_⟩ <;> simp [World.cell?, h1]
theorem StC.frozen (h : StC W X x0 x1 x2 x3 x4) (o : Nat) : W.frozen? ⟨X, o, none⟩ = false := by
  obtain ⟨ty, h1⟩ := h
  simp [World.frozen?, h1]
theorem StC.of_block (h : StC W X x0 x1 x2 x3 x4) (hb : V.heap[X]? = W.heap[X]?) : StC V X x0 x1 x2 x3 x4 := by obtain ⟨ty, h1⟩ := h; exact ⟨ty, hb.trans h1⟩
theorem StC.under (h : StC W X x0 x1 x2 x3 x4) (hb : Below W.heap.size W V) : StC V X x0 x1 x2 x3 x4 := h.of_block (hb.block _ h.lt)
theorem StC.other (h : StC W X x0 x1 x2 x3 x4) {q : Nat} (hq : X ≠ q) (i : Nat) (v : Value) : StC (W.setCell ⟨q, i, none⟩ v) X x0 x1 x2 x3 x4 := h.of_block (Below.heap_setCell _ _ _ _ hq)
theorem StC.set1 (h : StC W X x0 x1 x2 x3 x4) (v : Value) : StC (W.setCell ⟨X, 1, none⟩ v) X x0 v x2 x3 x4 := by obtain ⟨ty, h1⟩ := h; exact ⟨ty, block_set 1 v h1⟩
theorem StC.set2 (h : StC W X x0 x1 x2 x3 x4) (v : Value) : StC (W.setCell ⟨X, 2, none⟩ v) X x0 x1 v x3 x4 := by obtain ⟨ty, h1⟩ := h; exact ⟨ty, block_set 2 v h1⟩
theorem StC.set3 (h : StC W X x0 x1 x2 x3 x4) (v : Value) : StC (W.setCell ⟨X, 3, none⟩ v) X x0 x1 x2 v x4 := by obtain ⟨ty, h1⟩ := h; exact ⟨ty, block_set 3 v h1⟩
theorem StC.set4 (h : StC W X x0 x1 x2 x3 x4) (v : Value) : StC (W.setCell ⟨X, 4, none⟩ v) X x0 x1 x2 x3 v := by obtain ⟨ty, h1⟩ := h; exact ⟨ty, block_set 4 v h1⟩
end

/-- A block of two cells. -/
def TwoR (w : World) (R : Nat) (x y : Value) : Prop := ∃ ty, w.heap[R]? = some (.cells #[x, y] ty (0, 0))
theorem TwoR.lt {w : World} {R : Nat} {x y : Value} (h : TwoR w R x y) : R < w.heap.size := by obtain ⟨ty, h1⟩ := h; exact (Array.getElem?_eq_some_iff.1 h1).1
theorem TwoR.of_block {w v : World} {R : Nat} {x y : Value} (h : TwoR w R x y) (hb : v.heap[R]? = w.heap[R]?) : TwoR v R x y := by obtain ⟨ty, h1⟩ := h; exact ⟨ty, hb.trans h1⟩
theorem TwoR.under {w v : World} {R : Nat} {x y : Value} (h : TwoR w R x y) (hb : Below w.heap.size w v) : TwoR v R x y := h.of_block (hb.block _ h.lt)
theorem TwoR.cells {w : World} {R : Nat} {x y : Value} (h : TwoR w R x y) : w.cell? ⟨R, 0, none⟩ = some x ∧ w.cell? ⟨R, 1, none⟩ = some y := by
  obtain ⟨ty, h1⟩ := h
  constructor <;> simp [World.cell?, h1]
theorem TwoR.frozen {w : World} {R : Nat} {x y : Value} (h : TwoR w R x y) (o : Nat) : w.frozen? ⟨R, o, none⟩ = false := by
  obtain ⟨ty, h1⟩ := h
  simp [World.frozen?, h1]
theorem TwoR.other {w : World} {R : Nat} {x y : Value} (h : TwoR w R x y) {q : Nat} (hq : R ≠ q) (i : Nat) (v : Value) : TwoR (w.setCell ⟨q, i, none⟩ v) R x y := h.of_block (Below.heap_setCell _ _ _ _ hq)
theorem TwoR.set {w : World} {R : Nat} {x y : Value} (h : TwoR w R x y) (x' y' : Value) : TwoR ((w.setCell ⟨R, 0, none⟩ x').setCell ⟨R, 1, none⟩ y') R x' y' := by
  obtain ⟨ty, h1⟩ := h; exact ⟨ty, block_set 1 y' (block_set 0 x' h1)⟩
/-- What lies in memory while a line runs. -/
structure Mch (W : World) (aP : Option Addr) (nP cP : Nat) (lp : List Pk) (m N D S R Z X : Nat) (aL : Option Addr) (cL L : Nat) (Lf Dn : Nat → Int) (Sn : Nat → Nat → Int) (cur tick room : Int) (wx : World) : Prop where
  bel : Below W.heap.size W wx
  pk : PkR W aP nP cP lp
  oD : W.heap.size ≤ D ∧ D < Z
  oS : W.heap.size ≤ S ∧ S < Z ∧ D ≠ S
  oX : Z + m ≤ X
  oL : X < L
  oR : R < Z ∧ R ≠ D ∧ R ≠ S
  rb : TwoR wx R (.slice (some ⟨D, 0, none⟩) nP nP) (.slice (some ⟨S, 0, none⟩) m m)
  dn : nP = 0 ∨ SumC wx D nP Dn
  sl : SlcC wx S Z m N
  sn : ∀ c, c < m → SumC wx (Z + c) N (Sn c)
  lf : nP = 0 ∨ (aL = some ⟨L, 0, none⟩ ∧ SumC wx L nP Lf)
  cl : nP ≤ cL
  cm : cL ≤ 9223372036854775807
  st : StC wx X (.slice aP nP cP) (.slice aL nP cL) (.int .i64 cur) (.int .i64 tick) (.int .i64 room)
section
variable {W : World} {aP : Option Addr} {nP cP : Nat} {lp : List Pk} {m N D S R Z X : Nat} {aL : Option Addr} {cL L : Nat} {Lf Dn : Nat → Int} {Sn : Nat → Nat → Int} {cur tick room : Int} {u v : World}
theorem Mch.under (h : Mch W aP nP cP lp m N D S R Z X aL cL L Lf Dn Sn cur tick room u) (hb : Below u.heap.size u v) : Mch W aP nP cP lp m N D S R Z X aL cL L Lf Dn Sn cur tick room v :=
  ⟨h.bel.trans (hb.mono h.bel.size), h.pk, h.oD, h.oS, h.oX, h.oL, h.oR, h.rb.under hb, h.dn.imp id fun x => x.under hb, h.sl.under hb, fun c hc => (h.sn c hc).under hb, h.lf.imp id fun x => ⟨x.1, x.2.under hb⟩, h.cl, h.cm, h.st.under hb⟩
theorem Mch.setD (h : Mch W aP nP cP lp m N D S R Z X aL cL L Lf Dn Sn cur tick room u) (i : Nat) (y : Int) : Mch W aP nP cP lp m N D S R Z X aL cL L Lf (fun k => if k = i then y else Dn k) Sn cur tick room (u.setCell ⟨D, i, none⟩ (.int .i64 y)) := by
  have h1 := h.oD; have h2 := h.oS; have h3 := h.oX; have h4 := h.oL
  exact ⟨h.bel.setCell (show W.heap.size ≤ D by omega) _, h.pk, h1, h2, h3, h4, h.oR, h.rb.other (by have := h.oR; omega) _ _, h.dn.imp id fun x => x.set i y, h.sl.other (by omega) _ _, fun c hc => (h.sn c hc).other (by omega) _ _, h.lf.imp id fun x => ⟨x.1, x.2.other (by omega) _ _⟩, h.cl, h.cm, h.st.other (by omega) _ _⟩
theorem Mch.setS (h : Mch W aP nP cP lp m N D S R Z X aL cL L Lf Dn Sn cur tick room u) {c : Nat} (hc : c < m) (j : Nat) (y : Int) : Mch W aP nP cP lp m N D S R Z X aL cL L Lf Dn (fun c' k => if c' = c ∧ k = j then y else Sn c' k) cur tick room (u.setCell ⟨Z + c, j, none⟩ (.int .i64 y)) := by
  have h1 := h.oD; have h2 := h.oS; have h3 := h.oX; have h4 := h.oL
  refine ⟨h.bel.setCell (show W.heap.size ≤ Z + c by omega) _, h.pk, h1, h2, h3, h4, h.oR, h.rb.other (by have := h.oR; omega) _ _, h.dn.imp id fun x => x.other (by omega) _ _, h.sl.other (by omega) _ _, fun c' hc' => ?_, h.lf.imp id fun x => ⟨x.1, x.2.other (by omega) _ _⟩, h.cl, h.cm, h.st.other (by omega) _ _⟩
  by_cases e : c' = c
  · subst e
    exact ((h.sn c' hc').set j y).congr fun k _ => by by_cases ek : k = j <;> simp [ek]
  · exact ((h.sn c' hc').other (by omega) _ _).congr fun k _ => by rw [if_neg (fun x => e x.1)]
theorem Mch.setL (h : Mch W aP nP cP lp m N D S R Z X aL cL L Lf Dn Sn cur tick room u) (i : Nat) (y : Int) : Mch W aP nP cP lp m N D S R Z X aL cL L (fun k => if k = i then y else Lf k) Dn Sn cur tick room (u.setCell ⟨L, i, none⟩ (.int .i64 y)) := by
  have h1 := h.oD; have h2 := h.oS; have h3 := h.oX; have h4 := h.oL
  exact ⟨h.bel.setCell (show W.heap.size ≤ L by omega) _, h.pk, h1, h2, h3, h4, h.oR, h.rb.other (by have := h.oR; omega) _ _, h.dn.imp id fun x => x.other (by omega) _ _, h.sl.other (by omega) _ _, fun c hc => (h.sn c hc).other (by omega) _ _, h.lf.imp id fun x => ⟨x.1, x.2.set i y⟩, h.cl, h.cm, h.st.other (by omega) _ _⟩
theorem Mch.ofX (h : Mch W aP nP cP lp m N D S R Z X aL cL L Lf Dn Sn cur tick room u) {cur' tick' room' : Int} (hb : ∀ k, k ≠ X → v.heap[k]? = u.heap[k]?) (hB : Below W.heap.size u v) (hs : StC v X (.slice aP nP cP) (.slice aL nP cL) (.int .i64 cur') (.int .i64 tick') (.int .i64 room')) : Mch W aP nP cP lp m N D S R Z X aL cL L Lf Dn Sn cur' tick' room' v := by
  have h1 := h.oD; have h2 := h.oS; have h3 := h.oX; have h4 := h.oL
  exact ⟨h.bel.trans hB, h.pk, h1, h2, h3, h4, h.oR, h.rb.of_block (hb _ (by have := h.oR; omega)), h.dn.imp id fun x => x.of_block (hb _ (by omega)), h.sl.of_block (hb _ (by omega)), fun c hc => (h.sn c hc).of_block (hb _ (by omega)), h.lf.imp id fun x => ⟨x.1, x.2.of_block (hb _ (by omega))⟩, h.cl, h.cm, hs⟩
theorem Mch.base (h : Mch W aP nP cP lp m N D S R Z X aL cL L Lf Dn Sn cur tick room u) : W.heap.size ≤ X := by have h1 := h.oD; have h2 := h.oS; have h3 := h.oX; omega
theorem Mch.set2 (h : Mch W aP nP cP lp m N D S R Z X aL cL L Lf Dn Sn cur tick room u) (y : Int) : Mch W aP nP cP lp m N D S R Z X aL cL L Lf Dn Sn y tick room (u.setCell ⟨X, 2, none⟩ (.int .i64 y)) :=
  h.ofX (fun k hk => Below.heap_setCell _ _ _ _ hk) ((Below.refl _ _).setCell h.base _) (h.st.set2 _)
theorem Mch.set3 (h : Mch W aP nP cP lp m N D S R Z X aL cL L Lf Dn Sn cur tick room u) (y : Int) : Mch W aP nP cP lp m N D S R Z X aL cL L Lf Dn Sn cur y room (u.setCell ⟨X, 3, none⟩ (.int .i64 y)) :=
  h.ofX (fun k hk => Below.heap_setCell _ _ _ _ hk) ((Below.refl _ _).setCell h.base _) (h.st.set3 _)
theorem Mch.set4 (h : Mch W aP nP cP lp m N D S R Z X aL cL L Lf Dn Sn cur tick room u) (y : Int) : Mch W aP nP cP lp m N D S R Z X aL cL L Lf Dn Sn cur tick y (u.setCell ⟨X, 4, none⟩ (.int .i64 y)) :=
  h.ofX (fun k hk => Below.heap_setCell _ _ _ _ hk) ((Below.refl _ _).setCell h.base _) (h.st.set4 _)
/-- Other numbers that are the same where it matters. -/
theorem Mch.congr (h : Mch W aP nP cP lp m N D S R Z X aL cL L Lf Dn Sn cur tick room u) {Lf' Dn' : Nat → Int} {Sn' : Nat → Nat → Int} (h1 : ∀ i, i < nP → Lf i = Lf' i) (h2 : ∀ i, i < nP → Dn i = Dn' i) (h3 : ∀ c, c < m → ∀ k, k < N → Sn c k = Sn' c k) : Mch W aP nP cP lp m N D S R Z X aL cL L Lf' Dn' Sn' cur tick room u :=
  ⟨h.bel, h.pk, h.oD, h.oS, h.oX, h.oL, h.oR, h.rb, h.dn.imp id fun x => x.congr h2, h.sl, fun c hc => (h.sn c hc).congr (h3 c hc), h.lf.imp id fun x => ⟨x.1, x.2.congr h1⟩, h.cl, h.cm, h.st⟩
end
end Go.Proofs.Ytkienpbmoilheaa

namespace Go.Proofs.Ytkienpbmoilheaa
open Go.RowKit
set_option linter.unusedSimpArgs false
set_option linter.unusedVariables false

/-- A packet has arrived, and has not been begun. -/
def waitB (lp : List Pk) (Lf : Nat → Int) (tick : Int) (i : Nat) : Bool := decide ((lp.getD i default).t ≤ tick) && decide (Lf i = szI lp i)

section
variable {W : World} {aP : Option Addr} {nP cP : Nat} {lp : List Pk} {m N D S R Z X : Nat} {aL : Option Addr} {cL L : Nat} {Lf Dn : Nat → Int} {Sn : Nat → Nat → Int} {cur tick room : Int} {u v : World}
set_option maxRecDepth 100000 in
set_option maxHeartbeats 1600000 in
theorem waits16 (H0 : Mch W aP nP cP lp m N D S R Z X aL cL L Lf Dn Sn cur tick room u) (i : Nat) (hi : i < nP) (c : Bool) (hc : waitB lp Lf tick i = c) :
    Calls Try.prog 275 #[.pointer (some ⟨X, 0, none⟩), .int .i64 i] u (Says (.bool c) u) := by
  have hcl := H0.cl
  have hcm := H0.cm
  have hpl := H0.pk.sm
  obtain ⟨B, off, q, ha, hcs, hq, hbd⟩ := (H0.pk.under H0.bel).at hi
  obtain ⟨c0, c1, c2⟩ := hcs i q hq
  have hqd : lp.getD i default = q := by rw [List.getD_eq_getElem?_getD, hq]; rfl
  obtain ⟨haL, hL⟩ : aL = some ⟨L, 0, none⟩ ∧ SumC u L nP Lf := by
    rcases H0.lf with h | h
    · omega
    · exact h
  have cl0 := hL.cell hi
  obtain ⟨x, hx⟩ : ∃ x, Lf i = x := ⟨_, rfl⟩
  rw [hx] at cl0
  obtain ⟨s0, s1, s2, s3, s4⟩ := H0.st.cells
  unfold waitB szI at hc
  rw [hqd, hx] at hc
  have HC := Lib.hid hc
  clear hc hL hqd hq hx hcs hbd s2 s4 c0
  subst ha haL
  by_cases h1 : q.t ≤ tick
  · by_cases h2 : x = q.s
    · have h2' : (x == q.s) = true := by simp [h2]
      have H2 := Lib.hid h2
      clear h2
      go_enter Try.func275, Try.ntmps275
      go_upto_region 1 with fail
      go_quiet (fail)
      go_wp2_with fail
      go_ret
      refine ⟨?_, (Below.refl _ _).drewN _⟩
      rw [← HC.out, H2.out]; simp [h1]
    · have h2' : (x == q.s) = false := by simp [h2]
      have H2 := Lib.hid h2
      clear h2
      go_enter Try.func275, Try.ntmps275
      go_upto_region 1 with fail
      go_quiet (fail)
      go_wp2_with fail
      go_ret
      refine ⟨?_, (Below.refl _ _).drewN _⟩
      rw [← HC.out]; simp [H2.out]
  · go_enter Try.func275, Try.ntmps275
    go_upto_region 1 with fail
    go_quiet (fail)
    go_wp2_with fail
    go_ret
    refine ⟨?_, (Below.refl _ _).drewN _⟩
    rw [← HC.out]; simp; intro h; omega

/-- The first packet that waits. -/
def FstIs (lp : List Pk) (Lf : Nat → Int) (tick : Int) (n : Nat) (r : Int) : Prop :=
  (∃ k : Nat, k < n ∧ waitB lp Lf tick k = true ∧ (∀ j, j < k → waitB lp Lf tick j = false) ∧ r = (k : Int)) ∨ ((∀ j, j < n → waitB lp Lf tick j = false) ∧ r = -1)

set_option maxRecDepth 100000 in
set_option maxHeartbeats 1600000 in
theorem first16 (H0 : Mch W aP nP cP lp m N D S R Z X aL cL L Lf Dn Sn cur tick room u) (r : Int) (hr : FstIs lp Lf tick nP r) :
    Calls Try.prog 192 #[.pointer (some ⟨X, 0, none⟩)] u (Says (.int .i64 r) u) := by
  obtain ⟨s0, s1, s2, s3, s4⟩ := H0.st.cells
  have HM := Lib.hid H0
  have HR := Lib.hid hr
  have hpl := H0.pk.sm
  clear H0 hr s1 s2 s3 s4
  go_enter Try.func192, Try.ntmps192
  go_wp2_with fail
  go_loopw [9] (fun vi wx => ∃ k : Nat, vi = .int .i64 k ∧ k ≤ nP ∧ Hid (∀ j, j < k → waitB lp Lf tick j = false) ∧ Hid (Below u.heap.size u wx)) (fun vi _ => nP - (intOf vi).toNat)
  case atStart => exact ⟨0, by go_num, Nat.zero_le _, Lib.hid (fun j hj => absurd hj (Nat.not_lt_zero j)), Lib.hid (Below.refl _ _)⟩
  case round =>
    obtain ⟨k, rfl, hk, HW, HB⟩ := hrel
    obtain ⟨wk, rfl⟩ : ∃ u : World, u = wr := ⟨_, rfl⟩
    by_cases hlt : k < nP
    · have hlI : (k : Int) < (nP : Int) := by omega
      obtain ⟨c, hc⟩ : ∃ c, waitB lp Lf tick k = c := ⟨_, rfl⟩
      have HC := Lib.hid hc
      clear hc
      go_wp2_with fail
      refine (waits16 (HM.out.under HB.out) k hlt c HC.out).mono ?_
      rintro e w1 ⟨rfl, hb1⟩
      have HB1 := Lib.hid (HB.out.trans (hb1.mono HB.out.size))
      clear hb1
      cases c
      case true =>
        have HE := Lib.hid (show r = (k : Int) from by
          rcases HR.out with ⟨k', h1, h2, h3, h4⟩ | ⟨h1, h2⟩
          · rcases Nat.lt_trichotomy k k' with h | h | h
            · exact absurd HC.out (by rw [h3 k h]; decide)
            · rw [h4, h]
            · exact absurd h2 (by rw [HW.out k' h]; decide)
          · exact absurd HC.out (by rw [h1 k hlt]; decide))
        go_wp2_with fail
        go_ret
        exact ⟨by rw [HE.out]; rfl, HB1.out⟩
      case false =>
        have HN := Lib.hid (show ∀ j, j < k + 1 → waitB lp Lf tick j = false from fun j hj => by
          by_cases e : j = k
          · rw [e]; exact HC.out
          · exact HW.out j (by omega))
        go_wp2_with fail
        go_roundw
        case rel => exact ⟨k + 1, by go_num, by omega, HN, HB1⟩
        case measure => first | (simp [intOf]; done) | (simp [intOf]; omega)
    · obtain rfl : k = nP := by omega
      have hkI : ¬ (k : Int) < (k : Int) := by omega
      have HE := Lib.hid (show r = -1 from by
        rcases HR.out with ⟨k', h1, h2, h3, h4⟩ | ⟨h1, h2⟩
        · exact absurd h2 (by rw [HW.out k' h1]; decide)
        · exact h2)
      go_wp2_with fail
      go_ret
      exact ⟨by rw [HE.out]; rfl, HB.out⟩

set_option maxRecDepth 100000 in
set_option maxHeartbeats 1600000 in
theorem begin16 (H0 : Mch W aP nP cP lp m N D S R Z X aL cL L Lf Dn Sn cur tick room u) (r : Int) (hr : if cur = -1 then FstIs lp Lf tick nP r else r = cur) (c : Bool) (hc : decide (r = -1) = !c) :
    Calls Try.prog 273 #[.pointer (some ⟨X, 0, none⟩), .func (.func 192) #[] #[]] u fun e w' => e = .returned (.bool c) ∧ Mch W aP nP cP lp m N D S R Z X aL cL L Lf Dn Sn r tick room w' := by
  obtain ⟨s0, s1, s2, s3, s4⟩ := H0.st.cells
  have sf := H0.st.frozen 2
  have HM := Lib.hid H0
  have HC := Lib.hid hc
  clear H0 hc s0 s1 s3 s4
  by_cases h0 : cur = -1
  · rw [if_pos h0] at hr
    subst h0
    have HR := Lib.hid hr
    clear hr
    go_enter Try.func273, Try.ntmps273
    go_wp2_with fail
    refine (first16 HM.out r HR.out).mono ?_
    rintro e w1 ⟨rfl, hb1⟩
    have HM1 := Lib.hid (HM.out.under hb1)
    clear hb1 s2 sf
    have sf1 := HM1.out.st.frozen 2
    obtain ⟨_, _, s2, _, _⟩ := HM1.out.st.cells
    have HM2 := Lib.hid (HM1.out.set2 r)
    have t2 : (w1.setCell ⟨X, 2, none⟩ (.int .i64 r)).cell? ⟨X, 2, none⟩ = some (.int .i64 r) := HM2.out.st.cells.2.2.1
    go_wp2_with fail
    go_ret
    refine ⟨?_, HM2.out⟩
    have := HC.out
    by_cases e : r = -1
    · subst e; cases c
      · rfl
      · simp at this
    · cases c
      · simp [e] at this
      · simp [e]
  · rw [if_neg h0] at hr
    subst hr
    have hcB : (r == -1) = false := by simp [h0]
    have H1 := Lib.hid h0
    go_enter Try.func273, Try.ntmps273
    go_wp2_with fail
    go_ret
    refine ⟨?_, HM.out⟩
    have := HC.out
    cases c
    · simp [H1.out] at this
    · simp [H1.out]
end
end Go.Proofs.Ytkienpbmoilheaa

namespace Go.Proofs.Ytkienpbmoilheaa
open Go.RowKit
set_option linter.unusedSimpArgs false
set_option linter.unusedVariables false

section
variable {W : World} {aP : Option Addr} {nP cP : Nat} {lp : List Pk} {m N D S R Z X : Nat} {aL : Option Addr} {cL L : Nat} {Lf Dn : Nat → Int} {Sn : Nat → Nat → Int} {cur tick room : Int} {u v : World}
theorem two_new (w : World) (x y : Value) (t : TypeId) : (w.alloc (.cells #[x, y] t)).cell? ⟨w.heap.size, 0, none⟩ = some x ∧ (w.alloc (.cells #[x, y] t)).cell? ⟨w.heap.size, 1, none⟩ = some y := ⟨cell_new13 rfl, cell_new13 rfl⟩
theorem two_keep {w w' : World} {b : Nat} {x y : Value} (hb : Below (b + 1) w w') (h : w.cell? ⟨b, 0, none⟩ = some x ∧ w.cell? ⟨b, 1, none⟩ = some y) : w'.cell? ⟨b, 0, none⟩ = some x ∧ w'.cell? ⟨b, 1, none⟩ = some y :=
  ⟨(hb.cell (show b < b + 1 by omega)).trans h.1, (hb.cell (show b < b + 1 by omega)).trans h.2⟩
theorem cell_other {w : World} {b q : Nat} (h : b ≠ q) (o i : Nat) (v : Value) : (w.setCell ⟨q, i, none⟩ v).cell? ⟨b, o, none⟩ = w.cell? ⟨b, o, none⟩ := by
  have := Below.heap_setCell w ⟨q, i, none⟩ v b h
  simp only [World.cell?, this]
/-- What lies in memory behind a packet's next bytes. -/
def SentNext (W : World) (aP : Option Addr) (nP cP : Nat) (lp : List Pk) (m N D S R Z X : Nat) (aL : Option Addr) (cL L : Nat) (Lf Dn : Nat → Int) (Sn : Nat → Nat → Int) (k c t : Nat) (x d y room : Int) (wx : World) : Prop :=
  Mch W aP nP cP lp m N D S R Z X aL cL L (fun j => if j = k then x - d else Lf j) (if x - d = 0 then (fun j => if j = k then (t : Int) else Dn j) else Dn) (fun c' j => if c' = c ∧ j = t + 1 then y + d else Sn c' j) (if x - d = 0 then -1 else (k : Int)) (t : Int) (room - d) wx

set_option maxRecDepth 100000 in
set_option maxHeartbeats 3200000 in
theorem send16 (k t c : Nat) (H0 : Mch W aP nP cP lp m N D S R Z X aL cL L Lf Dn Sn (k : Int) (t : Int) room u) (hk : k < nP) (q : Pk) (hq : lp[k]? = some q) (x d y : Int) (hx : Lf k = x) (hx0 : 0 ≤ x) (hx1 : x ≤ 1500) (hr0 : 0 ≤ room) (hr1 : room ≤ 4000)
    (hd : (if room < x then room else x) = d) (htN : t + 1 < N) (hN : N ≤ 4096) (hc : q.f = (c : Int)) (hcm : c < m) (hm : m ≤ 6) (hy : Sn c (t + 1) = y) (hy0 : 0 ≤ y) (hy1 : y ≤ 90000) :
    Calls Try.prog 274 #[.pointer (some ⟨X, 0, none⟩), .agg #[.slice (some ⟨D, 0, none⟩) nP nP, .slice (some ⟨S, 0, none⟩) m m]] u fun e w' => e = .returned (.tuple #[]) ∧ SentNext W aP nP cP lp m N D S R Z X aL cL L Lf Dn Sn k c t x d y room w' := by
  have hcl := H0.cl
  have hcmx := H0.cm
  have hpl := H0.pk.sm
  obtain ⟨B, off, q', ha, hcs, hq', hbd⟩ := (H0.pk.under H0.bel).at hk
  obtain rfl : q' = q := by rw [hq] at hq'; cases hq'; rfl
  obtain ⟨c0, c1, c2⟩ := hcs k q' hq
  have hBlt : B < u.heap.size := lt_of_cell c0
  obtain ⟨haL, hL⟩ : aL = some ⟨L, 0, none⟩ ∧ SumC u L nP Lf := by
    rcases H0.lf with h | h
    · omega
    · exact h
  have hd0 : 0 ≤ d ∧ d ≤ x ∧ d ≤ room := by rw [← hd]; split <;> omega
  have HPK := Lib.hid H0.pk
  have hBW : B < W.heap.size := by
    obtain ⟨B', off', q2, ha', hcs', hq2, _⟩ := H0.pk.at hk
    rw [ha] at ha'
    cases ha'
    exact lt_of_cell (hcs' k q2 hq2).1
  have HC0 := Lib.hid (show W.cell? ⟨B, off + k * 3, none⟩ = some (.int .i64 (c : Int)) from by
    rw [← hc, ← c0]
    exact (H0.bel.cell hBW).symm)
  have HX := Lib.hid (And.intro hx (And.intro hd hy))
  have HQ := Lib.hid (And.intro hq (And.intro hc hbd))
  subst ha haL
  clear hq' hcs hq hc hbd c0 c1 c2 hL hx hd hy
  go_enter Try.func274, Try.ntmps274
  go_upto_region 1 with fail
  obtain ⟨u1, hu1⟩ : ∃ V, u.alloc (.cells #[.slice (some ⟨D, 0, none⟩) nP nP, .slice (some ⟨S, 0, none⟩) m m] 91) = V := ⟨_, rfl⟩
  have hb1 : Below u.heap.size u u1 := by rw [← hu1]; exact (Below.refl _ _).alloc (Nat.le_refl _) _
  have HM1 := Lib.hid (H0.under hb1)
  have BX1 := Lib.hid (show u1.cell? ⟨u.heap.size, 0, none⟩ = some (.slice (some ⟨D, 0, none⟩) nP nP) ∧ u1.cell? ⟨u.heap.size, 1, none⟩ = some (.slice (some ⟨S, 0, none⟩) m m) from by rw [← hu1]; exact two_new _ _ _ _)
  have hbox : u.heap.size < u1.heap.size := by rw [← hu1]; simp
  have hXlt : X < u.heap.size := H0.st.lt
  have HLT := Lib.hid (And.intro hXlt (And.intro (show D < u.heap.size by have := H0.oD; have := H0.oX; omega) (And.intro (show Z + c < u.heap.size from (H0.sn c hcm).lt) (show L < u.heap.size by
    rcases H0.lf with h | h
    · omega
    · exact h.2.lt))))
  rw [hu1]
  clear hu1 hb1 H0 hXlt
  obtain ⟨s0, s1, s2, s3, s4⟩ := HM1.out.st.cells
  go_upto_region 2 with fail
  have cl1 : u1.cell? ⟨L, k, none⟩ = some (.int .i64 x) := by
    rcases HM1.out.lf with h | h
    · omega
    · rw [← HX.out.1]; exact h.2.cell hk
  go_quiet (fail)
  rw [HX.out.2.1]
  obtain ⟨u2, hu2⟩ : ∃ V, u1.drewN nq = V := ⟨_, rfl⟩
  have hb2 : Below u1.heap.size u1 u2 := by rw [← hu2]; exact (Below.refl _ _).drewN _
  have HM2 := Lib.hid (HM1.out.under hb2)
  have BX2 := Lib.hid (two_keep (hb2.mono (show u.heap.size + 1 ≤ u1.heap.size by omega)) BX1.out)
  have hbox2 : u.heap.size < u2.heap.size := Nat.lt_of_lt_of_le hbox hb2.size
  rw [hu2]
  clear hu2 hb2 s0 s1 s2 s3 s4 cl1
  obtain ⟨s0, s1, s2, s3, s4⟩ := HM2.out.st.cells
  have cl2 : u2.cell? ⟨L, k, none⟩ = some (.int .i64 x) := by
    rcases HM2.out.lf with h | h
    · omega
    · rw [← HX.out.1]; exact h.2.cell hk
  have fl2 : u2.frozen? ⟨L, k, none⟩ = false := by
    rcases HM2.out.lf with h | h
    · omega
    · exact h.2.frozen k
  have hwx : IntKind.i64.wrap (x - d) = x - d := IntWalk.i64_in _ ⟨by omega, by omega⟩
  have hwr : IntKind.i64.wrap (room - d) = room - d := IntWalk.i64_in _ ⟨by omega, by omega⟩
  have hwy : IntKind.i64.wrap (y + d) = y + d := IntWalk.i64_in _ ⟨by omega, by omega⟩
  go_upto_region 4 with fail
  obtain ⟨u3, hu3⟩ : ∃ V, u2.setCell ⟨L, k, none⟩ (.int .i64 (x - d)) = V := ⟨_, rfl⟩
  have HM3 := Lib.hid (show Mch W _ nP cP lp m N D S R Z X _ cL L (fun j => if j = k then x - d else Lf j) Dn Sn k t room u3 from by rw [← hu3]; exact HM2.out.setL k (x - d))
  have BX3 := Lib.hid (show u3.cell? ⟨u.heap.size, 0, none⟩ = some (.slice (some ⟨D, 0, none⟩) nP nP) ∧ u3.cell? ⟨u.heap.size, 1, none⟩ = some (.slice (some ⟨S, 0, none⟩) m m) from by
    rw [← hu3]; exact ⟨(cell_other (by have := HLT.out; omega) _ _ _).trans BX2.out.1, (cell_other (by have := HLT.out; omega) _ _ _).trans BX2.out.2⟩)
  have cl3 : u3.cell? ⟨L, k, none⟩ = some (.int .i64 (x - d)) := by
    rcases HM3.out.lf with h | h
    · omega
    · have := h.2.cell hk
      rwa [if_pos rfl] at this
  rw [hu3]
  clear hu3 s0 s1 s2 s3 s4 cl2 fl2
  obtain ⟨s0, s1, s2, s3, s4⟩ := HM3.out.st.cells
  have fx3 := HM3.out.st.frozen 4
  go_upto_region 5 with fail
  obtain ⟨u4, hu4⟩ : ∃ V, u3.setCell ⟨X, 4, none⟩ (.int .i64 (room - d)) = V := ⟨_, rfl⟩
  have HM4 := Lib.hid (show Mch W _ nP cP lp m N D S R Z X _ cL L (fun j => if j = k then x - d else Lf j) Dn Sn k t (room - d) u4 from by rw [← hu4]; exact HM3.out.set4 (room - d))
  have BX4 := Lib.hid (show u4.cell? ⟨u.heap.size, 0, none⟩ = some (.slice (some ⟨D, 0, none⟩) nP nP) ∧ u4.cell? ⟨u.heap.size, 1, none⟩ = some (.slice (some ⟨S, 0, none⟩) m m) from by
    rw [← hu4]; exact ⟨(cell_other (by have := HLT.out; omega) _ _ _).trans BX3.out.1, (cell_other (by have := HLT.out; omega) _ _ _).trans BX3.out.2⟩)
  rw [hu4]
  clear hu4 s0 s1 s2 s3 s4 cl3 fx3
  obtain ⟨bx, hbx⟩ : ∃ n, u.heap.size = n := ⟨_, rfl⟩
  rw [hbx] at BX4 HLT ⊢
  have HS4 := Lib.hid (show u4.drew.cell? ⟨bx, 1, none⟩ = some (.slice (some ⟨S, 0, none⟩) m m) ∧ u4.drew.cell? ⟨X, 0, none⟩ = some (.slice (some ⟨B, off, none⟩) nP cP) ∧ u4.drew.cell? ⟨X, 3, none⟩ = some (.int .i64 (t : Int)) ∧ u4.drew.cell? ⟨B, off + k * 3, none⟩ = some (.int .i64 (c : Int)) ∧ u4.drew.cell? ⟨S, c, none⟩ = some (.slice (some ⟨Z + c, 0, none⟩) N N) ∧ u4.drew.cell? ⟨Z + c, t + 1, none⟩ = some (.int .i64 y) ∧ u4.drew = u4.drew from
    ⟨BX4.out.2, HM4.out.st.cells.1, HM4.out.st.cells.2.2.2.1, (HM4.out.bel.cell hBW).trans HC0.out, HM4.out.sl.cell hcm, by rw [← HX.out.2.2]; exact (HM4.out.sn c hcm).cell htN, rfl⟩)
  have hwt : IntKind.i64.wrap ((t : Int) + 1) = (t : Int) + 1 := IntWalk.i64_in _ ⟨by omega, by omega⟩
  have ht0 : 0 ≤ (t : Int) + 1 := by omega
  have ht1 : (t : Int) + 1 < (N : Int) := by omega
  have htn : ((t : Int) + 1).toNat = t + 1 := by omega
  refine wp_region_keeps (fun u => u.cell? ⟨bx, 1, none⟩ = some (.slice (some ⟨S, 0, none⟩) m m) ∧ u.cell? ⟨X, 0, none⟩ = some (.slice (some ⟨B, off, none⟩) nP cP) ∧ u.cell? ⟨X, 3, none⟩ = some (.int .i64 (t : Int)) ∧ u.cell? ⟨B, off + k * 3, none⟩ = some (.int .i64 (c : Int)) ∧ u.cell? ⟨S, c, none⟩ = some (.slice (some ⟨Z + c, 0, none⟩) N N) ∧ u.cell? ⟨Z + c, t + 1, none⟩ = some (.int .i64 y) ∧ u = u4.drew) 21 2 (by kernel_rfl) (by kernel_rfl) HS4.out (fun hHeld0 => ?_)
  refine wpAnyK_take (i := 0) (v := ?_) rfl (by kernel_rfl) (fun _ _ _ h => h) (Or.inl ⟨by rfl, ?_⟩) (by assumption) ?_
  rotate_left
  · (intro w hSw; (try dsimp only at hSw); go_simp; try with_reducible rfl)
  try simp only [Act.put, List.getElem_toArray, List.getElem_cons_zero, List.getElem_cons_succ, List.setIfInBounds_toArray, List.set_cons_zero, List.set_cons_succ]
  refine wpAnyK_take (i := 1) (v := ?_) rfl (by kernel_rfl) (fun _ _ _ h => h) (Or.inl ⟨by rfl, ?_⟩) (by assumption) ?_
  rotate_left
  · (intro w hSw; (try dsimp only at hSw); go_simp; try with_reducible rfl)
  try simp only [Act.put, List.getElem_toArray, List.getElem_cons_zero, List.getElem_cons_succ, List.setIfInBounds_toArray, List.set_cons_zero, List.set_cons_succ]
  refine wpAnyK_take (i := 2) (v := ?_) rfl (by kernel_rfl) (fun _ _ _ h => h) (Or.inl ⟨by rfl, ?_⟩) (by assumption) ?_
  rotate_left
  · (intro w hSw; (try dsimp only at hSw); go_simp; try with_reducible rfl)
  try simp only [Act.put, List.getElem_toArray, List.getElem_cons_zero, List.getElem_cons_succ, List.setIfInBounds_toArray, List.set_cons_zero, List.set_cons_succ]
  refine wpAnyK_take (i := 3) (v := ?_) rfl (by kernel_rfl) (fun _ _ _ h => h) (Or.inl ⟨by rfl, ?_⟩) (by assumption) ?_
  rotate_left
  · (intro w hSw; (try dsimp only at hSw); go_simp; try with_reducible rfl)
  try simp only [Act.put, List.getElem_toArray, List.getElem_cons_zero, List.getElem_cons_succ, List.setIfInBounds_toArray, List.set_cons_zero, List.set_cons_succ]
  refine wpAnyK_take (i := 4) (v := ?_) rfl (by kernel_rfl) (fun _ _ _ h => h) (Or.inl ⟨by rfl, ?_⟩) (by assumption) ?_
  rotate_left
  · (intro w hSw; (try dsimp only at hSw); go_simp; try with_reducible rfl)
  try simp only [Act.put, List.getElem_toArray, List.getElem_cons_zero, List.getElem_cons_succ, List.setIfInBounds_toArray, List.set_cons_zero, List.set_cons_succ]
  refine wpAnyK_take (i := 5) (v := ?_) rfl (by kernel_rfl) (fun _ _ _ h => h) (Or.inl ⟨by rfl, ?_⟩) (by assumption) ?_
  rotate_left
  · (intro w hSw; (try dsimp only at hSw); go_simp; try with_reducible rfl)
  try simp only [Act.put, List.getElem_toArray, List.getElem_cons_zero, List.getElem_cons_succ, List.setIfInBounds_toArray, List.set_cons_zero, List.set_cons_succ]
  refine wpAnyK_take (i := 6) (v := ?_) rfl (by kernel_rfl) (fun _ _ _ h => h) (Or.inl ⟨by rfl, ?_⟩) (by assumption) ?_
  rotate_left
  · (intro w hSw; (try dsimp only at hSw); go_simp; try with_reducible rfl)
  try simp only [Act.put, List.getElem_toArray, List.getElem_cons_zero, List.getElem_cons_succ, List.setIfInBounds_toArray, List.set_cons_zero, List.set_cons_succ]
  refine wpAnyK_take (i := 7) (v := ?_) rfl (by kernel_rfl) (fun _ _ _ h => h) (Or.inl ⟨by rfl, ?_⟩) (by assumption) ?_
  rotate_left
  · (intro w hSw; (try dsimp only at hSw); go_simp; try with_reducible rfl)
  try simp only [Act.put, List.getElem_toArray, List.getElem_cons_zero, List.getElem_cons_succ, List.setIfInBounds_toArray, List.set_cons_zero, List.set_cons_succ]
  refine wpAnyK_take (i := 8) (v := ?_) rfl (by kernel_rfl) (fun _ _ _ h => h) (Or.inl ⟨by rfl, ?_⟩) (by assumption) ?_
  rotate_left
  · (intro w hSw; (try dsimp only at hSw); go_simp; try with_reducible rfl)
  try simp only [Act.put, List.getElem_toArray, List.getElem_cons_zero, List.getElem_cons_succ, List.setIfInBounds_toArray, List.set_cons_zero, List.set_cons_succ]
  refine wpAnyK_take (i := 9) (v := ?_) rfl (by kernel_rfl) (fun _ _ _ h => h) (Or.inl ⟨by rfl, ?_⟩) (by assumption) ?_
  rotate_left
  · (intro w hSw; (try dsimp only at hSw); go_simp; try with_reducible rfl)
  try simp only [Act.put, List.getElem_toArray, List.getElem_cons_zero, List.getElem_cons_succ, List.setIfInBounds_toArray, List.set_cons_zero, List.set_cons_succ]
  refine wpAnyK_take (i := 10) (v := ?_) rfl (by kernel_rfl) (fun _ _ _ h => h) (Or.inl ⟨by rfl, ?_⟩) (by assumption) ?_
  rotate_left
  · (intro w hSw; (try dsimp only at hSw); go_simp; try with_reducible rfl)
  try simp only [Act.put, List.getElem_toArray, List.getElem_cons_zero, List.getElem_cons_succ, List.setIfInBounds_toArray, List.set_cons_zero, List.set_cons_succ]
  refine wpAnyK_take (i := 11) (v := ?_) rfl (by kernel_rfl) (fun _ _ _ h => h) (Or.inl ⟨by rfl, ?_⟩) (by assumption) ?_
  rotate_left
  · (intro w hSw; (try dsimp only at hSw); go_simp; try with_reducible rfl)
  try simp only [Act.put, List.getElem_toArray, List.getElem_cons_zero, List.getElem_cons_succ, List.setIfInBounds_toArray, List.set_cons_zero, List.set_cons_succ]
  refine wpAnyK_take (i := 12) (v := ?_) rfl (by kernel_rfl) (fun _ _ _ h => h) (Or.inl ⟨by rfl, ?_⟩) (by assumption) ?_
  rotate_left
  · (intro w hSw; (try dsimp only at hSw); go_simp; try with_reducible rfl)
  try simp only [Act.put, List.getElem_toArray, List.getElem_cons_zero, List.getElem_cons_succ, List.setIfInBounds_toArray, List.set_cons_zero, List.set_cons_succ]
  refine wpAnyK_take (i := 13) (v := ?_) rfl (by kernel_rfl) (fun _ _ _ h => h) (Or.inl ⟨by rfl, ?_⟩) (by assumption) ?_
  rotate_left
  · (intro w hSw; (try dsimp only at hSw); go_simp; try with_reducible rfl)
  try simp only [Act.put, List.getElem_toArray, List.getElem_cons_zero, List.getElem_cons_succ, List.setIfInBounds_toArray, List.set_cons_zero, List.set_cons_succ]
  refine wpAnyK_take (i := 14) (v := ?_) rfl (by kernel_rfl) (fun _ _ _ h => h) (Or.inl ⟨by rfl, ?_⟩) (by assumption) ?_
  rotate_left
  · (intro w hSw; (try dsimp only at hSw); go_simp; try with_reducible rfl)
  try simp only [Act.put, List.getElem_toArray, List.getElem_cons_zero, List.getElem_cons_succ, List.setIfInBounds_toArray, List.set_cons_zero, List.set_cons_succ]
  refine wpAnyK_take (i := 15) (v := ?_) rfl (by kernel_rfl) (fun _ _ _ h => h) (Or.inl ⟨by rfl, ?_⟩) (by assumption) ?_
  rotate_left
  · (intro w hSw; (try dsimp only at hSw); go_simp; try with_reducible rfl)
  try simp only [Act.put, List.getElem_toArray, List.getElem_cons_zero, List.getElem_cons_succ, List.setIfInBounds_toArray, List.set_cons_zero, List.set_cons_succ]
  refine wpAnyK_take (i := 16) (v := ?_) rfl (by kernel_rfl) (fun _ _ _ h => h) (Or.inl ⟨by rfl, ?_⟩) (by assumption) ?_
  rotate_left
  · (intro w hSw; (try dsimp only at hSw); go_simp; try with_reducible rfl)
  try simp only [Act.put, List.getElem_toArray, List.getElem_cons_zero, List.getElem_cons_succ, List.setIfInBounds_toArray, List.set_cons_zero, List.set_cons_succ]
  refine wpAnyK_take (i := 17) (v := ?_) rfl (by kernel_rfl) (fun _ _ _ h => h) (Or.inl ⟨by rfl, ?_⟩) (by assumption) ?_
  rotate_left
  · (intro w hSw; (try dsimp only at hSw); go_simp; try with_reducible rfl)
  try simp only [Act.put, List.getElem_toArray, List.getElem_cons_zero, List.getElem_cons_succ, List.setIfInBounds_toArray, List.set_cons_zero, List.set_cons_succ]
  refine wpAnyK_take (i := 18) (v := ?_) rfl (by kernel_rfl) (fun _ _ _ h => h) (Or.inl ⟨by rfl, ?_⟩) (by assumption) ?_
  rotate_left
  · (intro w hSw; (try dsimp only at hSw); go_simp; try with_reducible rfl)
  try simp only [Act.put, List.getElem_toArray, List.getElem_cons_zero, List.getElem_cons_succ, List.setIfInBounds_toArray, List.set_cons_zero, List.set_cons_succ]
  refine wpAnyK_take (i := 19) (v := ?_) rfl (by kernel_rfl) (fun _ _ _ h => h) (Or.inl ⟨by rfl, ?_⟩) (by assumption) ?_
  rotate_left
  · (intro w hSw; (try dsimp only at hSw); go_simp; try with_reducible rfl)
  try simp only [Act.put, List.getElem_toArray, List.getElem_cons_zero, List.getElem_cons_succ, List.setIfInBounds_toArray, List.set_cons_zero, List.set_cons_succ]
  refine wpAnyK_take (i := 20) (v := ?_) rfl (by kernel_rfl) (fun _ _ _ h => h) (Or.inl ⟨by rfl, ?_⟩) (by assumption) ?_
  rotate_left
  · (intro w hSw; (try dsimp only at hSw); go_simp; try with_reducible rfl)
  try simp only [Act.put, List.getElem_toArray, List.getElem_cons_zero, List.getElem_cons_succ, List.setIfInBounds_toArray, List.set_cons_zero, List.set_cons_succ]
  refine wpAnyK_done (by kernel_rfl) ?_
  simp only [List.drop_succ_cons, List.drop_zero]
  obtain ⟨u5, hu5⟩ : ∃ V, u4.drew = V := ⟨_, rfl⟩
  rw [hu5] at hHeld0 ⊢
  obtain ⟨e0, e1, e2, e3, e4, e5, _⟩ := hHeld0
  have HM5 := Lib.hid (HM4.out.under (show Below u4.heap.size u4 u5 by rw [← hu5]; exact (Below.refl _ _).drew))
  have BX5 := Lib.hid (show u5.cell? ⟨bx, 0, none⟩ = some (.slice (some ⟨D, 0, none⟩) nP nP) from by rw [← hu5]; exact BX4.out.1)
  have fz5 : u5.frozen? ⟨Z + c, t + 1, none⟩ = false := (HM5.out.sn c hcm).frozen _
  clear hu5 HS4
  go_upto_region 6 with fail
  obtain ⟨u6, hu6⟩ : ∃ V, u5.setCell ⟨Z + c, t + 1, none⟩ (.int .i64 (y + d)) = V := ⟨_, rfl⟩
  have HM6 := Lib.hid (show Mch W _ nP cP lp m N D S R Z X _ cL L (fun j => if j = k then x - d else Lf j) Dn (fun c' j => if c' = c ∧ j = t + 1 then y + d else Sn c' j) k t (room - d) u6 from by rw [← hu6]; exact HM5.out.setS hcm (t + 1) (y + d))
  have BX6 := Lib.hid (show u6.cell? ⟨bx, 0, none⟩ = some (.slice (some ⟨D, 0, none⟩) nP nP) from by
    rw [← hu6]; exact (cell_other (by have := HLT.out; omega) _ _ _).trans BX5.out)
  have cl6 : u6.cell? ⟨L, k, none⟩ = some (.int .i64 (x - d)) := by
    rcases HM6.out.lf with h | h
    · omega
    · have := h.2.cell hk
      rwa [if_pos rfl] at this
  rw [hu6]
  clear hu6 e0 e1 e2 e3 e4 e5 fz5
  obtain ⟨s0, s1, s2, s3, s4⟩ := HM6.out.st.cells
  by_cases hz : x - d = 0
  · have hzB : (x - d == 0) = true := by simp [hz]
    have HZ := Lib.hid hz
    clear hz
    go_upto_region 7 with fail
    have HS6 := Lib.hid (show u6.drew.cell? ⟨bx, 0, none⟩ = some (.slice (some ⟨D, 0, none⟩) nP nP) ∧ u6.drew.cell? ⟨X, 3, none⟩ = some (.int .i64 (t : Int)) ∧ u6.drew = u6.drew from ⟨BX6.out, s3, rfl⟩)
    refine wp_region_keeps (fun u => u.cell? ⟨bx, 0, none⟩ = some (.slice (some ⟨D, 0, none⟩) nP nP) ∧ u.cell? ⟨X, 3, none⟩ = some (.int .i64 (t : Int)) ∧ u = u6.drew) 7 2 (by kernel_rfl) (by kernel_rfl) HS6.out (fun hHeld0 => ?_)
    refine wpAnyK_take (i := 0) (v := ?_) rfl (by kernel_rfl) (fun _ _ _ h => h) (Or.inl ⟨by rfl, ?_⟩) (by assumption) ?_
    rotate_left
    · (intro w hSw; (try dsimp only at hSw); go_simp; try with_reducible rfl)
    try simp only [Act.put, List.getElem_toArray, List.getElem_cons_zero, List.getElem_cons_succ, List.setIfInBounds_toArray, List.set_cons_zero, List.set_cons_succ]
    refine wpAnyK_take (i := 1) (v := ?_) rfl (by kernel_rfl) (fun _ _ _ h => h) (Or.inl ⟨by rfl, ?_⟩) (by assumption) ?_
    rotate_left
    · (intro w hSw; (try dsimp only at hSw); go_simp; try with_reducible rfl)
    try simp only [Act.put, List.getElem_toArray, List.getElem_cons_zero, List.getElem_cons_succ, List.setIfInBounds_toArray, List.set_cons_zero, List.set_cons_succ]
    refine wpAnyK_take (i := 2) (v := ?_) rfl (by kernel_rfl) (fun _ _ _ h => h) (Or.inl ⟨by rfl, ?_⟩) (by assumption) ?_
    rotate_left
    · (intro w hSw; (try dsimp only at hSw); go_simp; try with_reducible rfl)
    try simp only [Act.put, List.getElem_toArray, List.getElem_cons_zero, List.getElem_cons_succ, List.setIfInBounds_toArray, List.set_cons_zero, List.set_cons_succ]
    refine wpAnyK_take (i := 3) (v := ?_) rfl (by kernel_rfl) (fun _ _ _ h => h) (Or.inl ⟨by rfl, ?_⟩) (by assumption) ?_
    rotate_left
    · (intro w hSw; (try dsimp only at hSw); go_simp; try with_reducible rfl)
    try simp only [Act.put, List.getElem_toArray, List.getElem_cons_zero, List.getElem_cons_succ, List.setIfInBounds_toArray, List.set_cons_zero, List.set_cons_succ]
    refine wpAnyK_take (i := 4) (v := ?_) rfl (by kernel_rfl) (fun _ _ _ h => h) (Or.inl ⟨by rfl, ?_⟩) (by assumption) ?_
    rotate_left
    · (intro w hSw; (try dsimp only at hSw); go_simp; try with_reducible rfl)
    try simp only [Act.put, List.getElem_toArray, List.getElem_cons_zero, List.getElem_cons_succ, List.setIfInBounds_toArray, List.set_cons_zero, List.set_cons_succ]
    refine wpAnyK_take (i := 5) (v := ?_) rfl (by kernel_rfl) (fun _ _ _ h => h) (Or.inl ⟨by rfl, ?_⟩) (by assumption) ?_
    rotate_left
    · (intro w hSw; (try dsimp only at hSw); go_simp; try with_reducible rfl)
    try simp only [Act.put, List.getElem_toArray, List.getElem_cons_zero, List.getElem_cons_succ, List.setIfInBounds_toArray, List.set_cons_zero, List.set_cons_succ]
    refine wpAnyK_take (i := 6) (v := ?_) rfl (by kernel_rfl) (fun _ _ _ h => h) (Or.inl ⟨by rfl, ?_⟩) (by assumption) ?_
    rotate_left
    · (intro w hSw; (try dsimp only at hSw); go_simp; try with_reducible rfl)
    try simp only [Act.put, List.getElem_toArray, List.getElem_cons_zero, List.getElem_cons_succ, List.setIfInBounds_toArray, List.set_cons_zero, List.set_cons_succ]
    refine wpAnyK_done (by kernel_rfl) ?_
    simp only [List.drop_succ_cons, List.drop_zero]
    obtain ⟨v6, hv6⟩ : ∃ V, u6.drew = V := ⟨_, rfl⟩
    have HM7 := Lib.hid (HM6.out.under (show Below u6.heap.size u6 v6 by rw [← hv6]; exact (Below.refl _ _).drew))
    rw [hv6] at hHeld0 ⊢
    obtain ⟨e0, e1, _⟩ := hHeld0
    have fd7 : v6.frozen? ⟨D, k, none⟩ = false := by
      rcases HM7.out.dn with h | h
      · omega
      · exact h.frozen k
    have cd7 : v6.cell? ⟨D, k, none⟩ = some (.int .i64 (Dn k)) := by
      rcases HM7.out.dn with h | h
      · omega
      · exact h.cell hk
    clear HS6 s0 s1 s2 s3 s4 cl6 hv6
    go_upto_region 8 with fail
    obtain ⟨u8, hu8⟩ : ∃ V, v6.setCell ⟨D, k, none⟩ (.int .i64 (t : Int)) = V := ⟨_, rfl⟩
    have HM8 := Lib.hid (show Mch W _ nP cP lp m N D S R Z X _ cL L (fun j => if j = k then x - d else Lf j) (fun j => if j = k then (t : Int) else Dn j) (fun c' j => if c' = c ∧ j = t + 1 then y + d else Sn c' j) k t (room - d) u8 from by rw [← hu8]; exact HM7.out.setD k t)
    rw [hu8]
    clear hu8 e0 e1 fd7 cd7
    obtain ⟨_, _, s2, _, _⟩ := HM8.out.st.cells
    have fx8 := HM8.out.st.frozen 2
    have HM9 := Lib.hid (HM8.out.set2 (-1))
    go_wp2_with fail
    go_end0
    refine ⟨rfl, ?_⟩
    unfold SentNext
    rw [if_pos HZ.out, if_pos HZ.out]
    exact HM9.out
  · have hzB : (x - d == 0) = false := by simp [hz]
    have HZ := Lib.hid hz
    clear hz
    go_wp2_with fail
    go_end0
    refine ⟨rfl, ?_⟩
    unfold SentNext
    rw [if_neg HZ.out, if_neg HZ.out]
    exact HM6.out
end
end Go.Proofs.Ytkienpbmoilheaa

namespace Go.Proofs.Ytkienpbmoilheaa
open Go.RowKit
set_option linter.unusedSimpArgs false
set_option linter.unusedVariables false

/-- What is left of each packet; what each class has got. -/
def lfF (lp : List Pk) (B : Int) (i : Nat) : Int := szI lp i - gvn lp B i
def snF (C : Int) (lp : List Pk) (t : Nat) (B : Int) (c k : Nat) : Int := if k ≤ t then sentF lp (c : Int) (lineS C lp k) else if k = t + 1 then sentF lp (c : Int) B else 0
/-- Which packet has been begun. -/
def CurOk (lp : List Pk) (t : Nat) (B cur : Int) : Prop :=
  (cur = -1 ∧ ∃ k, k ≤ lp.length ∧ B = preS lp k) ∨ ∃ k : Nat, k < lp.length ∧ cur = (k : Int) ∧ preS lp k ≤ B ∧ B < preS lp (k + 1) ∧ (lp.getD k default).t ≤ (t : Int)
structure LnI (W : World) (aP : Option Addr) (nP cP : Nat) (lp : List Pk) (C : Int) (m N D S R Z X : Nat) (aL : Option Addr) (cL L t : Nat) (B room cur : Int) (wx : World) : Prop where
  mch : Mch W aP nP cP lp m N D S R Z X aL cL L (lfF lp B) (dnM C lp t B) (snF C lp t B) cur (t : Int) room wx
  mid : MidL C lp t B room
  cur : CurOk lp t B cur
theorem lfF_zero {lp : List Pk} {B : Int} (hT : Trc lp) {i : Nat} (hi : i < lp.length) : lfF lp B i = szI lp i ↔ B ≤ preS lp i := by
  have h1 := hT.sz i hi
  have h2 := preS_succ lp i
  unfold lfF
  constructor
  · intro h
    rcases Int.le_total B (preS lp i) with c | c
    · exact c
    · rcases Int.le_total B (preS lp (i + 1)) with d | d
      · rw [gvn_mid c d] at h; omega
      · rw [gvn_full (hT.nn i) d] at h; omega
  · intro h; rw [gvn_zero h]; omega
section
variable {W : World} {aP : Option Addr} {nP cP : Nat} {lp : List Pk} {C : Int} {m N D S R Z X : Nat} {aL : Option Addr} {cL L t : Nat} {B room cur : Int} {wx wy : World}
/-- What is chosen. -/
theorem LnI.fst (h : LnI W aP nP cP lp C m N D S R Z X aL cL L t B room cur wx) (hT : Trc lp) (hl : lp.length = nP) :
    ∃ r, (if cur = -1 then FstIs lp (lfF lp B) (t : Int) nP r else r = cur) ∧
      ((r = -1 ∧ B = lineS C lp (t + 1) ∧ ∃ k, k ≤ lp.length ∧ B = preS lp k) ∨ ∃ k : Nat, k < nP ∧ r = (k : Int) ∧ preS lp k ≤ B ∧ B < preS lp (k + 1) ∧ (lp.getD k default).t ≤ (t : Int)) := by
  rcases h.cur with ⟨rfl, k, hk, hB⟩ | ⟨k, hk, rfl, h1, h2, h3⟩
  · have hno : ∀ j, j < k → waitB lp (lfF lp B) (t : Int) j = false := fun j hj => by
      have h1 := lfF_zero hT (B := B) (show j < lp.length by omega)
      have h2 := preS_lt hT hj hk
      unfold waitB
      rw [Bool.and_eq_false_iff]
      exact .inr (decide_eq_false (fun e => by have := h1.1 e; omega))
    by_cases c : k < nP ∧ (lp.getD k default).t ≤ (t : Int)
    · refine ⟨(k : Int), ?_, .inr ⟨k, c.1, rfl, by omega, ?_, c.2⟩⟩
      · rw [if_pos rfl]
        refine .inl ⟨k, c.1, ?_, hno, rfl⟩
        unfold waitB
        rw [Bool.and_eq_true]
        exact ⟨decide_eq_true c.2, decide_eq_true ((lfF_zero hT (by omega)).2 (by omega))⟩
      · have := preS_lt hT (show k < k + 1 by omega) (by omega); omega
    · refine ⟨-1, ?_, .inl ⟨rfl, mid_idle hT h.mid hk hB (fun hk' => by
        by_cases e : (lp.getD k default).t ≤ (t : Int)
        · exact absurd ⟨by omega, e⟩ c
        · omega), k, hk, hB⟩⟩
      rw [if_pos rfl]
      refine .inr ⟨fun j hj => ?_, rfl⟩
      by_cases d : j < k
      · exact hno j d
      · have h1 := asc_at hT.asc (show k ≤ j by omega) (by omega)
        have h2 : ¬ (lp.getD k default).t ≤ (t : Int) := fun e => c ⟨by omega, e⟩
        unfold waitB
        rw [Bool.and_eq_false_iff]
        exact .inl (decide_eq_false (by omega))
  · refine ⟨(k : Int), ?_, .inr ⟨k, by omega, rfl, h1, h2, h3⟩⟩
    rw [if_neg (by omega)]
/-- Behind a packet's next bytes. -/
theorem LnI.next (h : LnI W aP nP cP lp C m N D S R Z X aL cL L t B room cur wx) (hT : Trc lp) (hC : 0 ≤ C) (hl : lp.length = nP) {k c : Nat} (hk : k < nP) (h1 : preS lp k ≤ B) (h2 : B < preS lp (k + 1)) (h3 : (lp.getD k default).t ≤ (t : Int)) (hc : (lp.getD k default).f = (c : Int)) {d : Int} (hd1 : 1 ≤ d) (hd2 : d ≤ lfF lp B k) (hd3 : d ≤ room)
    (hs : SentNext W aP nP cP lp m N D S R Z X aL cL L (lfF lp B) (dnM C lp t B) (snF C lp t B) k c t (lfF lp B k) d (snF C lp t B c (t + 1)) room wy) :
    ∃ cur', LnI W aP nP cP lp C m N D S R Z X aL cL L t (B + d) (room - d) cur' wy := by
  have hx : lfF lp B k = preS lp (k + 1) - B := by
    have := preS_succ lp k
    unfold lfF
    rw [gvn_mid h1 (by omega)]; omega
  have hBd : B + d ≤ preS lp (k + 1) := by omega
  have hm := mid_send hT h.mid (show k < lp.length by omega) h3 (show 0 ≤ d by omega) hd3 hBd
  refine ⟨if lfF lp B k - d = 0 then -1 else (k : Int), ?_, hm, ?_⟩
  · unfold SentNext at hs
    refine hs.congr (fun i hi => ?_) (fun i hi => ?_) (fun c' hc' k' hk' => ?_)
    · have := gvn_step hT.nn h1 (show 0 ≤ d by omega) hBd i
      show (if i = k then lfF lp B k - d else lfF lp B i) = lfF lp (B + d) i
      by_cases e : i = k
      · subst e; rw [if_pos rfl] at this ⊢; unfold lfF; omega
      · rw [if_neg e] at this ⊢; unfold lfF; omega
    · have := dnM_send (C := C) hT hC (t := t) (show k < lp.length by omega) h.mid.lo h1 h2 (show 0 ≤ d by omega) hBd (i := i) (by omega)
      rw [this]
      by_cases e : lfF lp B k - d = 0
      · rw [if_pos e]
        by_cases e2 : i = k
        · rw [if_pos e2, if_pos ⟨e2, by omega⟩]
        · rw [if_neg e2, if_neg (fun x => e2 x.1)]
      · rw [if_neg e, if_neg (fun x => e (by omega))]
    · have := sent_step hT.nn (show k < lp.length by omega) h1 (show 0 ≤ d by omega) hBd (c' : Int)
      show (if c' = c ∧ k' = t + 1 then snF C lp t B c (t + 1) + d else snF C lp t B c' k') = snF C lp t (B + d) c' k'
      unfold snF
      by_cases e : k' = t + 1
      · subst e
        simp only [show ¬ (t + 1 ≤ t) by omega, if_false, if_true, and_true, this, hc]
        by_cases e2 : c' = c
        · subst e2; rw [if_pos rfl, if_pos rfl]
        · rw [if_neg e2, if_neg (by omega)]; omega
      · simp only [e, and_false, if_false]
  · by_cases e : lfF lp B k - d = 0
    · rw [if_pos e]; exact .inl ⟨rfl, k + 1, by omega, by omega⟩
    · rw [if_neg e]; exact .inr ⟨k, by omega, rfl, by omega, by omega, h3⟩
/-- Between two ticks; j of the classes' sums of the next tick are there. -/
def snT (C : Int) (lp : List Pk) (t j c k : Nat) : Int := if c < j ∧ k = t + 1 then sentF lp (c : Int) (lineS C lp t) else if k ≤ t then sentF lp (c : Int) (lineS C lp k) else 0
structure LnT (W : World) (aP : Option Addr) (nP cP : Nat) (lp : List Pk) (C : Int) (m N D S R Z X : Nat) (aL : Option Addr) (cL L t j : Nat) (cur tick room : Int) (wx : World) : Prop where
  mch : Mch W aP nP cP lp m N D S R Z X aL cL L (lfF lp (lineS C lp t)) (lnDone C lp t) (snT C lp t j) cur tick room wx
  cur : CurOk lp t (lineS C lp t) cur
theorem LnT.start {j : Nat} (h : Mch W aP nP cP lp m N D S R Z X aL cL L (szI lp) (fun _ => -1) (fun _ _ => 0) (-1) 0 0 wx) (hT : Trc lp) : LnT W aP nP cP lp C m N D S R Z X aL cL L 0 0 (-1) 0 0 wx := by
  refine ⟨h.congr (fun i hi => ?_) (fun i hi => rfl) (fun c hc k hk => ?_), .inl ⟨rfl, 0, Nat.zero_le _, rfl⟩⟩
  · unfold lfF
    rw [gvn_zero (show lineS C lp 0 ≤ preS lp i from sumI_nn _ fun j _ => hT.nn j)]; omega
  · unfold snT
    rw [if_neg (fun x => absurd x.1 (Nat.not_lt_zero _))]
    split
    · rename_i hk0
      obtain rfl : k = 0 := by omega
      exact (sent_zero hT.nn (Int.le_refl _) _).symm
    · rfl
theorem LnT.call {j : Nat} {tick : Int} (h : LnT W aP nP cP lp C m N D S R Z X aL cL L t j cur tick room wx) (hb : Below wx.heap.size wx wy) : LnT W aP nP cP lp C m N D S R Z X aL cL L t j cur tick room wy := ⟨h.mch.under hb, h.cur⟩
theorem LnT.copy {j : Nat} {tick : Int} (h : LnT W aP nP cP lp C m N D S R Z X aL cL L t j cur tick room wx) (hj : j < m) : LnT W aP nP cP lp C m N D S R Z X aL cL L t (j + 1) cur tick room (wx.setCell ⟨Z + j, t + 1, none⟩ (.int .i64 (sentF lp (j : Int) (lineS C lp t)))) := by
  refine ⟨(h.mch.setS hj (t + 1) _).congr (fun _ _ => rfl) (fun _ _ => rfl) (fun c hc k hk => ?_), h.cur⟩
  show (if c = j ∧ k = t + 1 then sentF lp (j : Int) (lineS C lp t) else snT C lp t j c k) = snT C lp t (j + 1) c k
  unfold snT
  by_cases e : k = t + 1
  · by_cases e2 : c = j
    · subst e2; rw [if_pos ⟨rfl, e⟩, if_pos ⟨by omega, e⟩]
    · rw [if_neg (fun x => e2 x.1)]
      by_cases e3 : c < j
      · rw [if_pos ⟨e3, e⟩, if_pos ⟨by omega, e⟩]
      · rw [if_neg (fun x => e3 x.1), if_neg (c := c < j + 1 ∧ _) (fun x => by omega)]
  · simp only [e, and_false, if_false]
theorem LnT.open {tick : Int} (h : LnT W aP nP cP lp C m N D S R Z X aL cL L t m cur tick room wx) (hT : Trc lp) (hC : 0 ≤ C) (hl : lp.length = nP) : LnI W aP nP cP lp C m N D S R Z X aL cL L t (lineS C lp t) C cur ((wx.setCell ⟨X, 3, none⟩ (.int .i64 (t : Int))).setCell ⟨X, 4, none⟩ (.int .i64 C)) := by
  refine ⟨((h.mch.set3 (t : Int)).set4 C).congr (fun _ _ => rfl) (fun i hi => (dnM_start hT hC (by omega)).symm) (fun c hc k hk => ?_), mid_start hT hC t, h.cur⟩
  unfold snT snF
  by_cases e : k = t + 1
  · rw [if_pos ⟨hc, e⟩, if_neg (by omega), if_pos e]
  · rw [if_neg (fun x => e x.2)]
    split
    · rfl
    · rfl
theorem LnI.close (h : LnI W aP nP cP lp C m N D S R Z X aL cL L t B room cur wx) (hB : B = lineS C lp (t + 1)) : LnT W aP nP cP lp C m N D S R Z X aL cL L (t + 1) 0 cur (t : Int) room wx := by
  subst hB
  refine ⟨h.mch.congr (fun _ _ => rfl) (fun i hi => rfl) (fun c hc k hk => ?_), ?_⟩
  · unfold snT snF
    simp only [Nat.not_lt_zero, false_and, if_false]
    by_cases e : k ≤ t
    · rw [if_pos e, if_pos (by omega)]
    · rw [if_neg e]
      by_cases e2 : k = t + 1
      · rw [if_pos e2, if_pos (by omega), e2]
      · rw [if_neg e2, if_neg (by omega)]
  · rcases h.cur with h1 | ⟨k, h1, h2, h3, h4, h5⟩
    · exact .inl h1
    · exact .inr ⟨k, h1, h2, h3, h4, by omega⟩
end
end Go.Proofs.Ytkienpbmoilheaa
