/- Contracts of package pointwise: Scale, Later, Ahead, Lower, Raise. By the verifier's side. -/
import Derived.Test.YtjjaaknjdmijbaaQePwAPwBPwCPwD
import Derived.Test.YtjjaaknjdmijbaaQeBaseApartPickKeepS
import Derived.Laws.EntriesVeiled
import Derived.Test.YtjjaaknjdmijbaaQePwMPwOPwXR56MConMNDecM
import Derived.Test.YtjjaaknjdmijbaaQeCurSToCurveNormalW
import Derived.Test.YtjjaaknjdmijbaaQeKeepC
namespace Go.Proofs.Ytjjaaknjdmijbaa
open Go.RowKit
set_option linter.unusedSimpArgs false

/-- The curve in normal form with the values E is handed back, or the error that there is none. -/
def GivesE (E : Nat → Option Int) (w : World) (e : Ending) (w' : World) : Prop :=
  Below w.heap.size w w' ∧ ((∃ (a : Option Addr) (n cap : Nat) (zs : List Int) (p : Nat) (inc : Int), e = .returned (.tuple #[curV a n cap p inc, .int .i64 0]) ∧ RowZ w' a n cap zs ∧ EForm zs p inc E ∧ ∀ x, a = some x → w.heap.size ≤ x.block) ∨
    (e = .returned (.tuple #[curV none 0 0 0 0, .int .i64 3]) ∧ ¬ ECan E))

theorem norm_self {zs : List Int} {p : Nat} {inc : Int} {E : Nat → Option Int} (h : EForm zs p inc E) : ∃ s, zs.length = s + p ∧ NormC zs p inc zs p inc := by
  obtain ⟨g, he, s, hs, hn⟩ := h
  obtain ⟨_, _, hN, _⟩ := g.form (fun _ => rfl) hn
  rw [← hs, firsts_atC] at hN
  exact ⟨s, hs, hN⟩

/-- What stands behind the making of the normal form and of the closure of its values: the curve in box A, a number in box A + 1, the result in box A + 2, the closure in box bv. -/
structure One (w : World) (a : Option Addr) (n cap p : Nat) (inc x : Int) (zs : List Int) (bv B : Nat) (u : World) : Prop where
  cur : Cur3 u w.heap.size (.slice a n cap) (.int .i64 p) (.int .i64 inc)
  num : u.cell? ⟨w.heap.size + 1, 0, none⟩ = some (.int .i64 x)
  res : Cur3 u (w.heap.size + 2) (.slice none 0 0) (.int .i64 0) (.int .i64 0)
  clo : u.cell? ⟨bv, 0, none⟩ = some (closPV B)
  cl : ClosG 181 #[.pointer (some ⟨B + 1, 0, none⟩), .pointer (some ⟨B, 0, none⟩)] 4194304 (atC zs p inc) u
  row : RowZ u a n cap zs
  below : Below w.heap.size w u

theorem One.call {w : World} {a : Option Addr} {n cap p : Nat} {inc x : Int} {zs : List Int} {bv B : Nat} {u v : World} (h : One w a n cap p inc x zs bv B u) (hb : Below u.heap.size u v) : One w a n cap p inc x zs bv B v :=
  ⟨h.cur.below hb, (hb.cell (lt_of_cell h.num)).trans h.num, h.res.below hb, (hb.cell (lt_of_cell h.clo)).trans h.clo, h.cl.above hb, h.row.under hb, h.below.trans (hb.mono h.below.size)⟩

theorem new_cell (w : World) (v : Value) (t : TypeId) : (w.alloc (.cells #[v] t)).cell? ⟨w.heap.size, 0, none⟩ = some v := by go_simp
theorem start_i (a : Option Addr) (n cap : Nat) (zs : List Int) (p : Nat) (inc : Int) (g : Good zs p inc) (hn : NormC zs p inc zs p inc) (s : Nat) (hs : zs.length = s + p) (w : World) (h : RowZ w a n cap zs) :
    Calls Try.prog 152 #[curV a n cap p inc] w (Says (.int .i64 s) w) := start_at a n cap zs p inc g hn s hs w h

end Go.Proofs.Ytjjaaknjdmijbaa

namespace Go
section
variable {P : Program} {ops : Array Oper} {Q : Exit → Act → World → Prop} {md : Region.Mode} {S : World → Prop} {n g : Nat} {T : Act → World → Prop}

theorem wpAnyK_two {i j : Nat} {oi oj : Oper} {fuel : Nat} {listed : Array Bool} {a : Act} {w : World} (hi : ops[i]? = some oi) (hj : ops[j]? = some oj) (hr : (decide (Region.ready md ops listed = [i, j]) && decide (i < n) && decide (j < n)) = true)
    (h1 : ∀ K' : Act → World → Prop, Shut (∀ a w, S w → (S w → wpAnyK P md ops Q S n g T fuel (listed.setIfInBounds i true) a w) → K' a w) → if Region.wanted oi (yielded ops a.tmps) = true then Oper.wp P oi a w K' Q else K' (a.put oi.dst undef) w)
    (h2 : ∀ K' : Act → World → Prop, Shut (∀ a w, S w → (S w → wpAnyK P md ops Q S n g T fuel (listed.setIfInBounds j true) a w) → K' a w) → if Region.wanted oj (yielded ops a.tmps) = true then Oper.wp P oj a w K' Q else K' (a.put oj.dst undef) w) :
    wpAnyK P md ops Q S n g T (fuel + 1) listed a w := by
  simp only [Bool.and_eq_true, decide_eq_true_eq] at hr
  obtain ⟨⟨hl, hin⟩, hjn⟩ := hr
  refine ⟨fun h0 => (by rw [hl] at h0; cases h0), fun k hk => ?_⟩
  rw [hl] at hk
  rcases List.mem_cons.1 hk with rfl | hk
  · exact ⟨hin, wpOp_step hi (fun K' hK => h1 K' (fun a w hS hW => hK a w ⟨hS, hW hS⟩))⟩
  · obtain rfl : k = j := by simpa using hk
    exact ⟨hjn, wpOp_step hj (fun K' hK => h2 K' (fun a w hS hW => hK a w ⟨hS, hW hS⟩))⟩

theorem wpAnyK_three {i j k : Nat} {oi oj ok : Oper} {fuel : Nat} {listed : Array Bool} {a : Act} {w : World} (hi : ops[i]? = some oi) (hj : ops[j]? = some oj) (hk : ops[k]? = some ok) (hr : (decide (Region.ready md ops listed = [i, j, k]) && decide (i < n) && decide (j < n) && decide (k < n)) = true)
    (h1 : ∀ K' : Act → World → Prop, Shut (∀ a w, S w → (S w → wpAnyK P md ops Q S n g T fuel (listed.setIfInBounds i true) a w) → K' a w) → if Region.wanted oi (yielded ops a.tmps) = true then Oper.wp P oi a w K' Q else K' (a.put oi.dst undef) w)
    (h2 : ∀ K' : Act → World → Prop, Shut (∀ a w, S w → (S w → wpAnyK P md ops Q S n g T fuel (listed.setIfInBounds j true) a w) → K' a w) → if Region.wanted oj (yielded ops a.tmps) = true then Oper.wp P oj a w K' Q else K' (a.put oj.dst undef) w)
    (h3 : ∀ K' : Act → World → Prop, Shut (∀ a w, S w → (S w → wpAnyK P md ops Q S n g T fuel (listed.setIfInBounds k true) a w) → K' a w) → if Region.wanted ok (yielded ops a.tmps) = true then Oper.wp P ok a w K' Q else K' (a.put ok.dst undef) w) :
    wpAnyK P md ops Q S n g T (fuel + 1) listed a w := by
  simp only [Bool.and_eq_true, decide_eq_true_eq] at hr
  obtain ⟨⟨⟨hl, hin⟩, hjn⟩, hkn⟩ := hr
  refine ⟨fun h0 => (by rw [hl] at h0; cases h0), fun m hm => ?_⟩
  rw [hl] at hm
  rcases List.mem_cons.1 hm with rfl | hm
  · exact ⟨hin, wpOp_step hi (fun K' hK => h1 K' (fun a w hS hW => hK a w ⟨hS, hW hS⟩))⟩
  rcases List.mem_cons.1 hm with rfl | hm
  · exact ⟨hjn, wpOp_step hj (fun K' hK => h2 K' (fun a w hS hW => hK a w ⟨hS, hW hS⟩))⟩
  · obtain rfl : m = k := by simpa using hm
    exact ⟨hkn, wpOp_step hk (fun K' hK => h3 K' (fun a w hS hW => hK a w ⟨hS, hW hS⟩))⟩
end
end Go

namespace Go.Proofs.Ytjjaaknjdmijbaa
open Go.RowKit
set_option linter.unusedSimpArgs false

theorem Good.norm_ex {zs : List Int} {p : Nat} {inc : Int} (g : Good zs p inc) : ∃ zs' p' inc', NormC zs p inc zs' p' inc' := by
  obtain ⟨s, q, c, hn⟩ := normOf_ex g.perAny g.p1
  exact ⟨_, _, _, (g.form (fun _ => rfl) hn).2.2.1⟩

/-- What stands in paired: the two curves in boxes A and A + 1, the choice in A + 2, the result in A + 3. -/
structure Two2 (w : World) (fc : FuncId) (a1 : Option Addr) (n1 cap1 p1 : Nat) (i1 : Int) (z1 : List Int) (a2 : Option Addr) (n2 cap2 p2 : Nat) (i2 : Int) (z2 : List Int) (u : World) : Prop where
  c1 : Cur3 u w.heap.size (.slice a1 n1 cap1) (.int .i64 p1) (.int .i64 i1)
  c2 : Cur3 u (w.heap.size + 1) (.slice a2 n2 cap2) (.int .i64 p2) (.int .i64 i2)
  ch : u.cell? ⟨w.heap.size + 2, 0, none⟩ = some (.func (.func fc) #[] #[])
  res : Cur3 u (w.heap.size + 3) (.slice none 0 0) (.int .i64 0) (.int .i64 0)
  r1 : RowZ u a1 n1 cap1 z1
  r2 : RowZ u a2 n2 cap2 z2
  f1 : ∀ x, a1 = some x → 1 ≤ n1 → x.block < w.heap.size ∨ w.heap.size + 3 < x.block
  f2 : ∀ x, a2 = some x → 1 ≤ n2 → x.block < w.heap.size ∨ w.heap.size + 3 < x.block
  below : Below w.heap.size w u

section
variable {w : World} {fc : FuncId} {a1 a2 : Option Addr} {n1 cap1 p1 n2 cap2 p2 : Nat} {i1 i2 : Int} {z1 z2 : List Int} {u v : World}
theorem Two2.call (h : Two2 w fc a1 n1 cap1 p1 i1 z1 a2 n2 cap2 p2 i2 z2 u) (hb : Below u.heap.size u v) : Two2 w fc a1 n1 cap1 p1 i1 z1 a2 n2 cap2 p2 i2 z2 v :=
  ⟨h.c1.below hb, h.c2.below hb, (hb.cell (lt_of_cell h.ch)).trans h.ch, h.res.below hb, h.r1.under hb, h.r2.under hb, h.f1, h.f2, h.below.trans (hb.mono h.below.size)⟩

theorem RowZ.far {w : World} {a : Option Addr} {n cap : Nat} {zs : List Int} (h : RowZ w a n cap zs) : ∀ x, a = some x → 1 ≤ n → x.block < w.heap.size := fun x hx hn => by
  obtain ⟨y, hy, hc⟩ := h.cell 0 (by omega)
  obtain rfl : x = y := Option.some.inj (hx.symm.trans hy)
  have := lt_of_cell hc
  rwa [add_block] at this

end

theorem ChG.at {fc : FuncId} {ch : Int → Int → Int} (h : ChG fc ch) {x y : Int} (hx : Mid x) (hy : Mid y) (w : World) : Calls Try.prog fc #[.int .i64 x, .int .i64 y] w fun e w' => e = .returned (.int .i64 (ch x y)) ∧ w' = w := h x y w hx hy

/-- The closures of the values of both curves. -/
structure Clo2 (w : World) (b1 b2 B1 B2 : Nat) (f1 f2 : Nat → Int) (u : World) : Prop where
  v1 : u.cell? ⟨b1, 0, none⟩ = some (.func (.func 181) #[] #[.pointer (some ⟨B1 + 1, 0, none⟩), .pointer (some ⟨B1, 0, none⟩)])
  v2 : u.cell? ⟨b2, 0, none⟩ = some (.func (.func 181) #[] #[.pointer (some ⟨B2 + 1, 0, none⟩), .pointer (some ⟨B2, 0, none⟩)])
  k1 : ClosG 181 #[.pointer (some ⟨B1 + 1, 0, none⟩), .pointer (some ⟨B1, 0, none⟩)] 4194304 f1 u
  k2 : ClosG 181 #[.pointer (some ⟨B2 + 1, 0, none⟩), .pointer (some ⟨B2, 0, none⟩)] 4194304 f2 u
theorem Clo2.call {w : World} {b1 b2 B1 B2 : Nat} {f1 f2 : Nat → Int} {u v : World} (h : Clo2 w b1 b2 B1 B2 f1 f2 u) (hb : Below u.heap.size u v) : Clo2 w b1 b2 B1 B2 f1 f2 v :=
  ⟨(hb.cell (lt_of_cell h.v1)).trans h.v1, (hb.cell (lt_of_cell h.v2)).trans h.v2, h.k1.above hb, h.k2.above hb⟩

/-- A closure over a curve, as cells: what it reads is apart from the block b. -/
structure Far (B : Nat) (a : Option Addr) (n : Nat) (b : Nat) : Prop where
  h1 : ¬ B = b
  h2 : ¬ B + 1 = b
  h3 : ∀ x, a = some x → 1 ≤ n → ¬ x.block = b

theorem ClosP.store {w : World} {B : Nat} {a : Option Addr} {n cap : Nat} {zs : List Int} {p : Nat} {inc : Int} (h : ClosP w B a n cap zs p inc) {b : Nat} (hf : Far B a n b) (v : Value) : ClosP (w.setCell ⟨b, 0, none⟩ v) B a n cap zs p inc := by
  have hb : ∀ q o, ¬ q = b → (w.setCell ⟨b, 0, none⟩ v).cell? ⟨q, o, none⟩ = w.cell? ⟨q, o, none⟩ := fun q o hq => World.cell?_of_block (w := w) (a := ⟨q, o, none⟩) (Below.heap_setCell _ _ _ _ hq)
  exact ⟨(hb _ _ hf.h1).trans h.f0, (hb _ _ hf.h1).trans h.f1, (hb _ _ hf.h1).trans h.f2, (hb _ _ hf.h2).trans h.num, h.row.store (fun x hx hn => hf.h3 x hx hn) _ _, h.good⟩

theorem ClosP.clos {w : World} {B : Nat} {a : Option Addr} {n cap : Nat} {zs : List Int} {p : Nat} {inc : Int} (h : ClosP w B a n cap zs p inc) : ClosG 181 #[.pointer (some ⟨B + 1, 0, none⟩), .pointer (some ⟨B, 0, none⟩)] 4194304 (atC zs p inc) w := by
  rintro ti t v w' rfl h2 rfl h4
  exact atp_any _ a n cap zs p inc t (by omega) w' (h.under h4)

def GivesP (a : Option Addr) (n cap : Nat) (zs : List Int) (p : Nat) (inc : Int) (w : World) (e : Ending) (w' : World) : Prop :=
  ∃ B, e = .returned (.func (.func 181) #[] #[.pointer (some ⟨B + 1, 0, none⟩), .pointer (some ⟨B, 0, none⟩)]) ∧ Below w.heap.size w w' ∧ w.heap.size ≤ B ∧ B + 1 < w'.heap.size ∧ ClosP w' B a n cap zs p inc

set_option maxHeartbeats 800000 in
theorem pvalues_p (a : Option Addr) (n cap : Nat) (zs : List Int) (p : Nat) (inc : Int) (g : Good zs p inc) (w : World) (h : RowZ w a n cap zs) :
    Calls Try.prog 121 #[curV a n cap p inc] w (GivesP a n cap zs p inc w) := by
  have hmf : ∀ (fn : Fn) (first cap : Array Value) (w : World), (Instr.makeFunc fn first cap).run Try.prog w = .ok (.func fn first cap) w := fun _ _ _ _ => rfl
  have hB : Below w.heap.size w ((w.alloc (.cells #[.slice a n cap, .int .i64 p, .int .i64 inc] 24)).alloc (.cells #[.int .i64 n] 3)) := ((Below.refl _ _).alloc (Nat.le_refl _) _).alloc (by simp) _
  have HC : Hid (ClosP ((w.alloc (.cells #[.slice a n cap, .int .i64 p, .int .i64 inc] 24)).alloc (.cells #[.int .i64 n] 3)) w.heap.size a n cap zs p inc) := Lib.hid (by
    obtain ⟨c0, c1, c2, _, _, _⟩ := (Cur3.new w (.slice a n cap) (.int .i64 p) (.int .i64 inc) 24).alloc (.cells #[.int .i64 n] 3)
    exact ⟨c0, c1, c2, by go_simp, h.under hB, g⟩)
  have HB := Lib.hid hB
  clear h g hB
  go_enter Try.func121, Try.ntmps121
  go_wp2_with fail
  go_ret
  exact ⟨w.heap.size, rfl, HB.out, Nat.le_refl _, by simp, HC.out⟩

/-- What stands while the region runs: the boxes; no, one or both closures; no, one or both new boxes. -/
def Nil9 (w0 u : World) (b : Nat) : Prop := w0.heap.size ≤ b ∧ u.cell? ⟨b, 0, none⟩ = some .nilFunc ∧ u.frozen? ⟨b, 0, none⟩ = false
theorem Nil9.call {w0 u v : World} {b : Nat} (h : Nil9 w0 u b) (hb : Below u.heap.size u v) : Nil9 w0 v b := ⟨h.1, (hb.cell (lt_of_cell h.2.1)).trans h.2.1, (hb.frozen (p := ⟨b, 0, none⟩) (lt_of_cell h.2.1)).trans h.2.2⟩
theorem size_new (w : World) (o : Obj) : (w.alloc o).heap.size = w.heap.size + 1 := by simp
theorem Nil9.new {w0 u : World} (h : w0.heap.size ≤ u.heap.size) : Nil9 w0 (u.alloc (.cells #[.nilFunc] 33)) u.heap.size := ⟨h, new_cell _ _ _, by go_simp⟩

theorem Clo2.end {w u : World} {b9 b10 B1 B2 : Nat} {a1 a2 : Option Addr} {n1 cap1 p1 n2 cap2 p2 : Nat} {i1 i2 : Int} {z1 z2 : List Int} (h1 : ClosP u B1 a1 n1 cap1 z1 p1 i1) (h2 : ClosP u B2 a2 n2 cap2 z2 p2 i2) (hn : ¬ b9 = b10)
    (c9 : u.cell? ⟨b9, 0, none⟩ = some .nilFunc) (c10 : u.cell? ⟨b10, 0, none⟩ = some .nilFunc) (f19 : Far B1 a1 n1 b9) (f110 : Far B1 a1 n1 b10) (f29 : Far B2 a2 n2 b9) (f210 : Far B2 a2 n2 b10) :
    Clo2 w b9 b10 B1 B2 (atC z1 p1 i1) (atC z2 p2 i2) ((u.setCell ⟨b9, 0, none⟩ (.func (.func 181) #[] #[.pointer (some ⟨B1 + 1, 0, none⟩), .pointer (some ⟨B1, 0, none⟩)])).setCell ⟨b10, 0, none⟩ (.func (.func 181) #[] #[.pointer (some ⟨B2 + 1, 0, none⟩), .pointer (some ⟨B2, 0, none⟩)])) := by
  have e10 : (u.setCell ⟨b9, 0, none⟩ (.func (.func 181) #[] #[.pointer (some ⟨B1 + 1, 0, none⟩), .pointer (some ⟨B1, 0, none⟩)])).cell? ⟨b10, 0, none⟩ = some .nilFunc := by
    rw [World.cell?_setCell_other _ _ _ _ (fun h => hn (by cases h; rfl))]; exact c10
  refine ⟨?_, World.cell?_setCell_same _ _ _ e10, ((h1.store f19 _).store f110 _).clos, ((h2.store f29 _).store f210 _).clos⟩
  rw [World.cell?_setCell_other _ _ _ _ (fun h => hn (by cases h; rfl))]
  exact World.cell?_setCell_same _ _ _ c9

end Go.Proofs.Ytjjaaknjdmijbaa

namespace Go.Proofs.Ytjjaaknjdmijbaa
open Go.RowKit
set_option linter.unusedSimpArgs false

/-- The curve in normal form with the values E is handed back, with no error. -/
def GivesOk (E : Nat → Option Int) (w : World) (e : Ending) (w' : World) : Prop :=
  ∃ (a : Option Addr) (n cap : Nat) (zs : List Int) (p : Nat) (inc : Int), e = .returned (.tuple #[curV a n cap p inc, .int .i64 0]) ∧ Below w.heap.size w w' ∧ RowZ w' a n cap zs ∧ EForm zs p inc E ∧ ∀ x, a = some x → w.heap.size ≤ x.block

theorem GivesE.ok {E : Nat → Option Int} (hc : ECan E) {w w' : World} {e : Ending} (h : GivesE E w e w') : GivesOk E w e w' := by
  obtain ⟨hb, ⟨a, n, cap, zs, p, inc, he, hr, hf, hx⟩ | ⟨_, hno⟩⟩ := h
  · exact ⟨a, n, cap, zs, p, inc, he, hb, hr, hf, hx⟩
  · exact absurd hc hno

theorem GivesE.to {E E' : Nat → Option Int} (h : E = E') {w w' : World} {e : Ending} (k : GivesE E w e w') : GivesE E' w e w' := h ▸ k

theorem GivesE.post {E : Nat → Option Int} {w w1 w2 : World} {b : Nat} (hB : Below w.heap.size w w1) (hb1 : w.heap.size ≤ b) (hb2 : b < w1.heap.size) (h2 : Below w1.heap.size w1 w2) {a : Option Addr} {n cap : Nat} {zs : List Int} {p : Nat} {inc : Int} (hr : RowZ w2 a n cap zs)
    (hx : ∀ x, a = some x → w1.heap.size ≤ x.block) (hf : EForm zs p inc E) :
    GivesE E w (.returned (.tuple #[curV a n cap p inc, .int .i64 0])) (((w2.setCell ⟨b, 0, none⟩ (.slice a n cap)).setCell ⟨b, 1, none⟩ (.int .i64 p)).setCell ⟨b, 2, none⟩ (.int .i64 inc)) := by
  have hne : ∀ x : Addr, a = some x → 1 ≤ n → x.block ≠ b := fun x h _ => by have := hx x h; omega
  exact ⟨below_set3 (hB.trans (h2.mono hB.size)) hb1 _ _ _, .inl ⟨a, n, cap, zs, p, inc, rfl, ((hr.store hne _ _).store hne _ _).store hne _ _, hf, fun x h => by have := hx x h; have := hB.size; omega⟩⟩

/-- The least common multiple of the periods of the normal forms. -/
def LcmN (z1 : List Int) (p1 : Nat) (i1 : Int) (z2 : List Int) (p2 : Nat) (i2 : Int) (L : Nat) : Prop :=
  ∃ y1 q1 j1 y2 q2 j2, NormC z1 p1 i1 y1 q1 j1 ∧ NormC z2 p2 i2 y2 q2 j2 ∧ q1 / Nat.gcd q1 q2 * q2 = L

/-! ## The examples -/

/-! ## Boxes -/

/-- A curve in a box, and its list. -/
structure Bx (u : World) (F : Nat) (a : Option Addr) (n cap p : Nat) (inc : Int) (zs : List Int) : Prop where
  box : Cur3 u F (.slice a n cap) (.int .i64 p) (.int .i64 inc)
  row : RowZ u a n cap zs
theorem Bx.under {u v : World} {F : Nat} {a : Option Addr} {n cap p : Nat} {inc : Int} {zs : List Int} (h : Bx u F a n cap p inc zs) (hb : Below u.heap.size u v) : Bx v F a n cap p inc zs := ⟨h.box.below hb, h.row.under hb⟩
theorem Bx.new {w : World} {a : Option Addr} {n cap p : Nat} {inc : Int} {zs : List Int} (h : RowZ w a n cap zs) : Bx (w.alloc (.cells #[.slice a n cap, .int .i64 p, .int .i64 inc] 24)) w.heap.size a n cap p inc zs := ⟨Cur3.new _ _ _ _ _, h.alloc _⟩
theorem below_box {w : World} (o : Obj) : Below w.heap.size w (w.alloc o) := (Below.refl _ _).alloc (Nat.le_refl _) _

theorem EForm.good {zs : List Int} {p : Nat} {inc : Int} {E : Nat → Option Int} (h : EForm zs p inc E) : Good zs p inc := h.1
theorem EForm.val {zs : List Int} {p : Nat} {inc : Int} {E : Nat → Option Int} (h : EForm zs p inc E) : ∀ t, eC zs p inc t = E t := h.2.1

theorem EForm.at {zs : List Int} {p : Nat} {inc : Int} {E : Nat → Option Int} (h : EForm zs p inc E) {t : Nat} {x : Int} (hx : E t = some x) : atC zs p inc t = x := by
  rw [← enc_eC, h.2.1, hx]; rfl

end Go.Proofs.Ytjjaaknjdmijbaa

namespace Go.Proofs.Ytjjaaknjdmijbaa
open Go.RowKit
set_option linter.unusedSimpArgs false

end Go.Proofs.Ytjjaaknjdmijbaa

namespace Go.Proofs.Ytjjaaknjdmijbaa
open Go.RowKit
set_option linter.unusedSimpArgs false

theorem GivesE.no {E : Nat → Option Int} (hc : ¬ ECan E) {w w' : World} {e : Ending} (h : GivesE E w e w') : e = .returned (.tuple #[curV none 0 0 0 0, .int .i64 3]) ∧ Below w.heap.size w w' := by
  obtain ⟨hb, ⟨a, n, cap, zs, p, inc, he, hr, hf, hx⟩ | ⟨he, _⟩⟩ := h
  · exact absurd hf.can hc
  · exact ⟨he, hb⟩

theorem Bx.set {u : World} {F G : Nat} {a : Option Addr} {n cap p : Nat} {inc : Int} {zs : List Int} (h : Bx u F a n cap p inc zs) (hF : F ≠ G) (hx : ∀ x, a = some x → 1 ≤ n → x.block ≠ G) (v0 v1 v2 : Value) : Bx (((u.setCell ⟨G, 0, none⟩ v0).setCell ⟨G, 1, none⟩ v1).setCell ⟨G, 2, none⟩ v2) F a n cap p inc zs :=
  ⟨((h.box.other hF _ _).other hF _ _).other hF _ _, ((h.row.store hx _ _).store hx _ _).store hx _ _⟩
theorem Bx.put {u : World} {F : Nat} {a a2 : Option Addr} {n cap p n2 cap2 q : Nat} {inc jnc : Int} {zs ys : List Int} (h : Bx u F a n cap p inc zs) (hr : RowZ u a2 n2 cap2 ys) (hx : ∀ x, a2 = some x → 1 ≤ n2 → x.block ≠ F) : Bx (((u.setCell ⟨F, 0, none⟩ (.slice a2 n2 cap2)).setCell ⟨F, 1, none⟩ (.int .i64 q)).setCell ⟨F, 2, none⟩ (.int .i64 jnc)) F a2 n2 cap2 q jnc ys :=
  ⟨h.box.set _ _ _, ((hr.store hx _ _).store hx _ _).store hx _ _⟩

/-- A curve with these values and no error, or the zero curve and the error's number. -/
def MX (E : Nat → Option Int) (zs : List Int) (p inc c : Int) : Prop := (c = 0 ∧ ∃ q : Nat, p = q ∧ EForm zs q inc E) ∨ (c = 3 ∧ zs = [] ∧ p = 0 ∧ inc = 0)
/-- A curve in a box, with whatever numbers. -/
structure BxI (u : World) (F : Nat) (a : Option Addr) (n cap : Nat) (p inc : Int) (zs : List Int) : Prop where
  box : Cur3 u F (.slice a n cap) (.int .i64 p) (.int .i64 inc)
  row : RowZ u a n cap zs
theorem BxI.under {u v : World} {F : Nat} {a : Option Addr} {n cap : Nat} {p inc : Int} {zs : List Int} (h : BxI u F a n cap p inc zs) (hb : Below u.heap.size u v) : BxI v F a n cap p inc zs := ⟨h.box.below hb, h.row.under hb⟩
theorem BxI.new {w : World} {a : Option Addr} {n cap : Nat} {p inc : Int} {zs : List Int} (h : RowZ w a n cap zs) : BxI (w.alloc (.cells #[.slice a n cap, .int .i64 p, .int .i64 inc] 24)) w.heap.size a n cap p inc zs := ⟨Cur3.new _ _ _ _ _, h.alloc _⟩

theorem Bx.apart {u v : World} {F b : Nat} {a : Option Addr} {n cap p : Nat} {inc : Int} {zs : List Int} (h : Bx u F a n cap p inc zs) (ha : Apart b u v) (hF : F ≠ b) (hx : ∀ x, a = some x → ¬ x.block = b) : Bx v F a n cap p inc zs := ⟨h.box.apart ha hF, h.row.apart ha hx⟩
theorem BxI.apart {u v : World} {F b : Nat} {a : Option Addr} {n cap : Nat} {p inc : Int} {zs : List Int} (h : BxI u F a n cap p inc zs) (ha : Apart b u v) (hF : F ≠ b) (hx : ∀ x, a = some x → ¬ x.block = b) : BxI v F a n cap p inc zs := ⟨h.box.apart ha hF, h.row.apart ha hx⟩
/-! ## Curves that are periodic by 24 ticks in the end -/

theorem lcm_day {z1 z2 : List Int} {p1 p2 : Nat} {i1 i2 : Int} (g1 : Good z1 p1 i1) (g2 : Good z2 p2 i2) (h1 : Day (eC z1 p1 i1)) (h2 : Day (eC z2 p2 i2)) : ∃ L, L ≤ 120 ∧ LcmN z1 p1 i1 z2 p2 i2 L := by
  obtain ⟨y1, q1, j1, n1⟩ := g1.norm_ex
  obtain ⟨y2, q2, j2, n2⟩ := g2.norm_ex
  exact ⟨q1 / Nat.gcd q1 q2 * q2, by have := day_lcm g1 g2 h1 h2 n1 n2; omega, _, _, _, _, _, _, n1, n2, rfl⟩

section
variable (a1 : Option Addr) (n1 cap1 : Nat) (z1 : List Int) (p1 : Nat) (i1 : Int) (g1 : Good z1 p1 i1) (a2 : Option Addr) (n2 cap2 : Nat) (z2 : List Int) (p2 : Nat) (i2 : Int) (g2 : Good z2 p2 i2) (h1 : Day (eC z1 p1 i1)) (h2 : Day (eC z2 p2 i2))
    (w : World) (r1 : RowZ w a1 n1 cap1 z1) (r2 : RowZ w a2 n2 cap2 z2)
include g1 g2 h1 h2 r1 r2
end

theorem BxI.put {u : World} {F : Nat} {a a2 : Option Addr} {n cap n2 cap2 : Nat} {p inc p2 i2 : Int} {zs ys : List Int} (h : BxI u F a n cap p inc zs) (hr : RowZ u a2 n2 cap2 ys) (hx : ∀ x, a2 = some x → 1 ≤ n2 → x.block ≠ F) : BxI (((u.setCell ⟨F, 0, none⟩ (.slice a2 n2 cap2)).setCell ⟨F, 1, none⟩ (.int .i64 p2)).setCell ⟨F, 2, none⟩ (.int .i64 i2)) F a2 n2 cap2 p2 i2 ys :=
  ⟨h.box.set _ _ _, ((hr.store hx _ _).store hx _ _).store hx _ _⟩
theorem BxI.set {u : World} {F G : Nat} {a : Option Addr} {n cap : Nat} {p inc : Int} {zs : List Int} (h : BxI u F a n cap p inc zs) (hF : F ≠ G) (hx : ∀ x, a = some x → 1 ≤ n → x.block ≠ G) (v0 v1 v2 : Value) : BxI (((u.setCell ⟨G, 0, none⟩ v0).setCell ⟨G, 1, none⟩ v1).setCell ⟨G, 2, none⟩ v2) F a n cap p inc zs :=
  ⟨((h.box.other hF _ _).other hF _ _).other hF _ _, ((h.row.store hx _ _).store hx _ _).store hx _ _⟩
theorem Bx.i {u : World} {F : Nat} {a : Option Addr} {n cap p : Nat} {inc : Int} {zs : List Int} (h : Bx u F a n cap p inc zs) : BxI u F a n cap p inc zs := ⟨h.box, h.row⟩
theorem MX.ok {E : Nat → Option Int} {zs : List Int} {p inc : Int} (h : MX E zs p inc 0) : ∃ q : Nat, p = q ∧ EForm zs q inc E := by
  rcases h with ⟨_, h⟩ | ⟨h, _⟩
  · exact h
  · exact absurd h (by decide)

end Go.Proofs.Ytjjaaknjdmijbaa

namespace Go.Proofs.Ytjjaaknjdmijbaa
open Go.RowKit
set_option linter.unusedSimpArgs false

/-- The zero curve is handed back, and an error. -/
def GivesBad (c : Int) (w : World) (e : Ending) (w' : World) : Prop := e = .returned (.tuple #[curV none 0 0 0 0, .int .i64 c]) ∧ Below w.heap.size w w'

theorem GivesBad.post {w w1 w2 : World} {b : Nat} (hB : Below w.heap.size w w1) (hb1 : w.heap.size ≤ b) (h2 : Below w1.heap.size w1 w2) (c : Int) :
    GivesBad c w (.returned (.tuple #[curV none 0 0 0 0, .int .i64 c])) (((w2.setCell ⟨b, 0, none⟩ (.slice none 0 0)).setCell ⟨b, 1, none⟩ (.int .i64 0)).setCell ⟨b, 2, none⟩ (.int .i64 0)) :=
  ⟨rfl, below_set3 (hB.trans (h2.mono hB.size)) hb1 _ _ _⟩

/-! ## Results that may be errors, of arguments that may be -/

/-- A curve in normal form with these values and no error, or the zero curve and an error. -/
def MY (E : Nat → Option Int) (zs : List Int) (p inc c : Int) : Prop := (c = 0 ∧ ∃ q : Nat, p = q ∧ EForm zs q inc E) ∨ (¬ c = 0 ∧ zs = [] ∧ p = 0 ∧ inc = 0)
/-- The same, not in normal form. -/
def MC (E : Nat → Option Int) (zs : List Int) (p inc c : Int) : Prop := (c = 0 ∧ ∃ q : Nat, p = q ∧ Good zs q inc ∧ ∀ t, eC zs q inc t = E t) ∨ (¬ c = 0 ∧ zs = [] ∧ p = 0 ∧ inc = 0)
theorem MY.ok {E : Nat → Option Int} {zs : List Int} {p inc : Int} (h : MY E zs p inc 0) : ∃ q : Nat, p = q ∧ EForm zs q inc E := by
  rcases h with ⟨_, h⟩ | ⟨h, _⟩
  · exact h
  · exact absurd rfl h
def GivesY (E : Nat → Option Int) (w : World) (e : Ending) (w' : World) : Prop :=
  ∃ (a : Option Addr) (n cap : Nat) (zs : List Int) (p inc c : Int), e = .returned (.tuple #[curV a n cap p inc, .int .i64 c]) ∧ Below w.heap.size w w' ∧ RowZ w' a n cap zs ∧ MY E zs p inc c ∧ (c = 0 ∨ c = 1 ∨ c = 3) ∧ ∀ x, a = some x → w.heap.size ≤ x.block
theorem rowZ_none (w : World) : RowZ w none 0 0 [] := ⟨rfl, Nat.le_refl _, Nat.zero_le _, by omega, fun i hi => absurd hi (Nat.not_lt_zero _), fun i hi => absurd hi (Nat.not_lt_zero _)⟩
theorem GivesE.y {E : Nat → Option Int} {w w' : World} {e : Ending} (h : GivesE E w e w') : GivesY E w e w' := by
  obtain ⟨hb, ⟨a, n, cap, zs, p, inc, he, hr, hf, hx⟩ | ⟨he, _⟩⟩ := h
  · exact ⟨a, n, cap, zs, p, inc, 0, he, hb, hr, .inl ⟨rfl, p, rfl, hf⟩, .inl rfl, hx⟩
  · exact ⟨none, 0, 0, [], 0, 0, 3, he, hb, rowZ_none _, .inr ⟨by decide, rfl, rfl, rfl⟩, .inr (.inr rfl), fun x hx => by cases hx⟩
theorem GivesBad.y {E : Nat → Option Int} {c : Int} {w w' : World} {e : Ending} (h : GivesBad c w e w') (hc : c = 1 ∨ c = 3) : GivesY E w e w' :=
  ⟨none, 0, 0, [], 0, 0, c, h.1, h.2, rowZ_none _, .inr ⟨by omega, rfl, rfl, rfl⟩, .inr hc, fun x hx => by cases hx⟩
theorem MC.in {E : Nat → Option Int} {zs : List Int} {p inc c : Int} (h : MC E zs p inc c) : In64 p ∧ In64 inc := by
  rcases h with ⟨_, q, rfl, g, _⟩ | ⟨_, _, rfl, rfl⟩
  · have := g.p2; have := g.i0; have := g.i1; exact ⟨⟨by omega, by omega⟩, ⟨by omega, by omega⟩⟩
  · exact ⟨⟨by omega, by omega⟩, ⟨by omega, by omega⟩⟩

section
variable {E1 E2 : Nat → Option Int} {a1 : Option Addr} {n1 cap1 : Nat} {z1 : List Int} {p1 i1 k1 : Int} {a2 : Option Addr} {n2 cap2 : Nat} {z2 : List Int} {p2 i2 k2 : Int} (h1 : MC E1 z1 p1 i1 k1) (h2 : MC E2 z2 p2 i2 k2) (d1 : Day E1) (d2 : Day E2)
    (w : World) (r1 : RowZ w a1 n1 cap1 z1) (r2 : RowZ w a2 n2 cap2 z2)
include h1 h2 d1 d2 r1 r2
end

end Go.Proofs.Ytjjaaknjdmijbaa

namespace Go.Proofs.Ytjjaaknjdmijbaa
open Go.RowKit
set_option linter.unusedSimpArgs false
set_option linter.unusedVariables false

/-! ## A list in a block -/

/-- The first m cells of the block are F's values. -/
structure RowF (u : World) (lb m : Nat) (F : Nat → Int) : Prop where
  lt : lb < u.heap.size
  cell : ∀ i, i < m → u.cell? ⟨lb, i, none⟩ = some (.int .i64 (F i)) ∧ u.frozen? ⟨lb, i, none⟩ = false
theorem RowF.under {u v : World} {lb m : Nat} {F : Nat → Int} (h : RowF u lb m F) (hb : Below u.heap.size u v) : RowF v lb m F :=
  ⟨Nat.lt_of_lt_of_le h.lt hb.size, fun i hi => ⟨(hb.cell (p := ⟨lb, i, none⟩) h.lt).trans (h.cell i hi).1, (hb.frozen (p := ⟨lb, i, none⟩) h.lt).trans (h.cell i hi).2⟩⟩
theorem RowF.set {u : World} {lb m : Nat} {F : Nat → Int} (h : RowF u lb m F) {k : Nat} (hk : k < m) (v : Int) : RowF (u.setCell ⟨lb, k, none⟩ (.int .i64 v)) lb m (fun i => if i = k then v else F i) := by
  refine ⟨by simpa [World.setCell] using h.lt, fun i hi => ?_⟩
  obtain ⟨h1, h2⟩ := h.cell i hi
  obtain ⟨k1, k2⟩ := h.cell k hk
  by_cases e : i = k
  · subst e
    rw [if_pos rfl]
    exact ⟨by go_simp, by go_simp⟩
  · rw [if_neg e]
    exact ⟨(by have h3 := h1; go_simp; try exact h3), by go_simp⟩
theorem RowF.congr {u : World} {lb m : Nat} {F G : Nat → Int} (h : RowF u lb m F) (he : ∀ i, i < m → F i = G i) : RowF u lb m G := ⟨h.lt, fun i hi => by rw [← he i hi]; exact h.cell i hi⟩
theorem RowF.made (w : World) (m : Nat) : RowF (w.alloc (.cells (madeCells #[.int .i64 0] m) 3)) w.heap.size m (fun _ => 0) :=
  ⟨by simp, fun i hi => ⟨made_cell w m i hi, made_frozen w m i⟩⟩
theorem RowF.other {u : World} {lb m : Nat} {F : Nat → Int} (h : RowF u lb m F) {b : Nat} (hb : lb ≠ b) (i : Nat) (v : Value) : RowF (u.setCell ⟨b, i, none⟩ v) lb m F :=
  ⟨by simpa [World.setCell] using h.lt, fun j hj => by
    obtain ⟨h1, h2⟩ := h.cell j hj
    exact ⟨(World.cell?_of_block (w := u) (a := ⟨lb, j, none⟩) (Below.heap_setCell _ _ _ _ hb)).trans h1, (World.frozen?_of_block (w := u) (a := ⟨lb, j, none⟩) (Below.heap_setCell _ _ _ _ hb)).trans h2⟩⟩

theorem ClosP.other {w : World} {B : Nat} {a : Option Addr} {n cap : Nat} {zs : List Int} {p : Nat} {inc : Int} (h : ClosP w B a n cap zs p inc) {b : Nat} (hf : Far B a n b) (i : Nat) (v : Value) : ClosP (w.setCell ⟨b, i, none⟩ v) B a n cap zs p inc := by
  have hb : ∀ q o, ¬ q = b → (w.setCell ⟨b, i, none⟩ v).cell? ⟨q, o, none⟩ = w.cell? ⟨q, o, none⟩ := fun q o hq => World.cell?_of_block (w := w) (a := ⟨q, o, none⟩) (Below.heap_setCell _ _ _ _ hq)
  exact ⟨(hb _ _ hf.h1).trans h.f0, (hb _ _ hf.h1).trans h.f1, (hb _ _ hf.h1).trans h.f2, (hb _ _ hf.h2).trans h.num, h.row.store (fun x hx hn => hf.h3 x hx hn) _ _, h.good⟩

theorem GivesBad.alloc {c : Int} {w v : World} {e : Ending} (h : GivesBad c w e v) (o : Obj) : GivesBad c w e (v.alloc o) := ⟨h.1, h.2.alloc h.2.size o⟩

/-! ## One difference -/


end Go.Proofs.Ytjjaaknjdmijbaa
