/- Contracts of package pointwise: paired. By the verifier's side. -/
import Derived.Test.YtknimlpdpgpliaaLPwE
import Derived.Test.YtknimlpdpgpliaaLKeepT
import Derived.Test.YtknimlpdpgpliaaLPwMPwOPwXR56M
import Derived.Test.YtknimlpdpgpliaaLCurSCurLCurW
namespace Go.Proofs.Ytknimlpdpgpliaa
open Go.RowKit
set_option linter.unusedSimpArgs false

theorem Good.norm_ex {zs : List Int} {p : Nat} {inc : Int} (g : Good zs p inc) : ∃ zs' p' inc', NormC zs p inc zs' p' inc' := by
  obtain ⟨s, q, c, hn⟩ := normOf_ex g.perAny g.p1
  exact ⟨_, _, _, (g.form (fun _ => rfl) hn).2.2.1⟩

/-- What stands in paired: the two curves in boxes A and A + 1, the choice in A + 2, the result in A + 3. -/
structure Two2 (w : World) (fc : FuncId) (a1 : Option Addr) (n1 cap1 p1 : Nat) (i1 : Int) (z1 : List Int) (a2 : Option Addr) (n2 cap2 p2 : Nat) (i2 : Int) (z2 : List Int) (u : World) : Prop where
  c1 : Cur3 u w.heap.size (.slice a1 n1 cap1) (.int .i64 p1) (.int .i64 i1)
  c2 : Cur3 u (w.heap.size + 1) (.slice a2 n2 cap2) (.int .i64 p2) (.int .i64 i2)
  ch : u.cell? ⟨w.heap.size + 2, 0, none⟩ = some (.func (.func fc) #[] #[])
  res : Cur3 u (w.heap.size + 3) (.slice none 0 0) (.int .i64 0) (.int .i64 0)
  r1 : RowZ u a1 n1 cap1 z1
  r2 : RowZ u a2 n2 cap2 z2
  f1 : ∀ x, a1 = some x → 1 ≤ n1 → x.block < w.heap.size ∨ w.heap.size + 3 < x.block
  f2 : ∀ x, a2 = some x → 1 ≤ n2 → x.block < w.heap.size ∨ w.heap.size + 3 < x.block
  below : Below w.heap.size w u

section
variable {w : World} {fc : FuncId} {a1 a2 : Option Addr} {n1 cap1 p1 n2 cap2 p2 : Nat} {i1 i2 : Int} {z1 z2 : List Int} {u v : World}
theorem Two2.call (h : Two2 w fc a1 n1 cap1 p1 i1 z1 a2 n2 cap2 p2 i2 z2 u) (hb : Below u.heap.size u v) : Two2 w fc a1 n1 cap1 p1 i1 z1 a2 n2 cap2 p2 i2 z2 v :=
  ⟨h.c1.below hb, h.c2.below hb, (hb.cell (lt_of_cell h.ch)).trans h.ch, h.res.below hb, h.r1.under hb, h.r2.under hb, h.f1, h.f2, h.below.trans (hb.mono h.below.size)⟩

theorem Two2.put1 (h : Two2 w fc a1 n1 cap1 p1 i1 z1 a2 n2 cap2 p2 i2 z2 u) {a : Option Addr} {n cap p : Nat} {i : Int} {z : List Int} (hr : RowZ u a n cap z) (hx : ∀ x, a = some x → w.heap.size + 4 ≤ x.block) :
    Two2 w fc a n cap p i z a2 n2 cap2 p2 i2 z2 (((u.setCell ⟨w.heap.size, 0, none⟩ (.slice a n cap)).setCell ⟨w.heap.size, 1, none⟩ (.int .i64 p)).setCell ⟨w.heap.size, 2, none⟩ (.int .i64 i)) := by
  have hne : ∀ x : Addr, a = some x → 1 ≤ n → x.block ≠ w.heap.size := fun x h _ => by have := hx x h; omega
  have hne2 : ∀ x : Addr, a2 = some x → 1 ≤ n2 → x.block ≠ w.heap.size := fun x h1 h2 => by have := h.f2 x h1 h2; omega
  exact ⟨h.c1.set _ _ _, ((h.c2.other (by omega) _ _).other (by omega) _ _).other (by omega) _ _, by rw [set3_cell (by omega)]; exact h.ch, ((h.res.other (by omega) _ _).other (by omega) _ _).other (by omega) _ _,
    ((hr.store hne _ _).store hne _ _).store hne _ _, ((h.r2.store hne2 _ _).store hne2 _ _).store hne2 _ _, fun x h1 _ => .inr (by have := hx x h1; omega), h.f2, below_set3 h.below (Nat.le_refl _) _ _ _⟩

theorem Two2.put2 (h : Two2 w fc a1 n1 cap1 p1 i1 z1 a2 n2 cap2 p2 i2 z2 u) {a : Option Addr} {n cap p : Nat} {i : Int} {z : List Int} (hr : RowZ u a n cap z) (hx : ∀ x, a = some x → w.heap.size + 4 ≤ x.block) :
    Two2 w fc a1 n1 cap1 p1 i1 z1 a n cap p i z (((u.setCell ⟨w.heap.size + 1, 0, none⟩ (.slice a n cap)).setCell ⟨w.heap.size + 1, 1, none⟩ (.int .i64 p)).setCell ⟨w.heap.size + 1, 2, none⟩ (.int .i64 i)) := by
  have hne : ∀ x : Addr, a = some x → 1 ≤ n → x.block ≠ w.heap.size + 1 := fun x h _ => by have := hx x h; omega
  have hne2 : ∀ x : Addr, a1 = some x → 1 ≤ n1 → x.block ≠ w.heap.size + 1 := fun x h1 h2 => by have := h.f1 x h1 h2; omega
  exact ⟨((h.c1.other (by omega) _ _).other (by omega) _ _).other (by omega) _ _, h.c2.set _ _ _, by rw [set3_cell (by omega)]; exact h.ch, ((h.res.other (by omega) _ _).other (by omega) _ _).other (by omega) _ _,
    ((h.r1.store hne2 _ _).store hne2 _ _).store hne2 _ _, ((hr.store hne _ _).store hne _ _).store hne _ _, h.f1, fun x h1 _ => .inr (by have := hx x h1; omega), below_set3 h.below (Nat.le_succ _) _ _ _⟩

theorem RowZ.far {w : World} {a : Option Addr} {n cap : Nat} {zs : List Int} (h : RowZ w a n cap zs) : ∀ x, a = some x → 1 ≤ n → x.block < w.heap.size := fun x hx hn => by
  obtain ⟨y, hy, hc⟩ := h.cell 0 (by omega)
  obtain rfl : x = y := Option.some.inj (hx.symm.trans hy)
  have := lt_of_cell hc
  rwa [add_block] at this

theorem two2_start (h1 : RowZ w a1 n1 cap1 z1) (h2 : RowZ w a2 n2 cap2 z2) (fc : FuncId) {W : World}
    (hW : (((w.alloc (.cells #[.slice a1 n1 cap1, .int .i64 p1, .int .i64 i1] 26)).alloc (.cells #[.slice a2 n2 cap2, .int .i64 p2, .int .i64 i2] 26)).alloc (.cells #[.func (.func fc) #[] #[]] 37)).alloc (.cells #[.slice none 0 0, .int .i64 0, .int .i64 0] 26) = W) :
    Two2 w fc a1 n1 cap1 p1 i1 z1 a2 n2 cap2 p2 i2 z2 W ∧ W.heap.size = w.heap.size + 4 := by
  subst hW
  have hB : Below w.heap.size w ((((w.alloc (.cells #[.slice a1 n1 cap1, .int .i64 p1, .int .i64 i1] 26)).alloc (.cells #[.slice a2 n2 cap2, .int .i64 p2, .int .i64 i2] 26)).alloc (.cells #[.func (.func fc) #[] #[]] 37)).alloc (.cells #[.slice none 0 0, .int .i64 0, .int .i64 0] 26)) :=
    ((((Below.refl _ _).alloc (Nat.le_refl _) _).alloc (by simp) _).alloc (by simp; omega) _).alloc (by simp; omega) _
  refine ⟨⟨(((Cur3.new w _ _ _ _).alloc _).alloc _).alloc _, ((Cur3.new2 w _ _ _ _ _).alloc _).alloc _, by go_simp, ?_, h1.under hB, h2.under hB, fun x hx hn => .inl (h1.far x hx hn), fun x hx hn => .inl (h2.far x hx hn), hB⟩, by simp⟩
  have := Cur3.new2 ((w.alloc (.cells #[.slice a1 n1 cap1, .int .i64 p1, .int .i64 i1] 26)).alloc (.cells #[.slice a2 n2 cap2, .int .i64 p2, .int .i64 i2] 26)) (.slice none 0 0) (.int .i64 0) (.int .i64 0) 26 (.cells #[.func (.func fc) #[] #[]] 37)
  simpa using this
end

theorem ChG.at {fc : FuncId} {ch : Int → Int → Int} (h : ChG fc ch) {x y : Int} (hx : Mid x) (hy : Mid y) (w : World) : Calls Try.prog fc #[.int .i64 x, .int .i64 y] w fun e w' => e = .returned (.int .i64 (ch x y)) ∧ w' = w := h x y w hx hy

/-- The closures of the values of both curves. -/
structure Clo2 (w : World) (b1 b2 B1 B2 : Nat) (f1 f2 : Nat → Int) (u : World) : Prop where
  v1 : u.cell? ⟨b1, 0, none⟩ = some (.func (.func 152) #[] #[.pointer (some ⟨B1 + 1, 0, none⟩), .pointer (some ⟨B1, 0, none⟩)])
  v2 : u.cell? ⟨b2, 0, none⟩ = some (.func (.func 152) #[] #[.pointer (some ⟨B2 + 1, 0, none⟩), .pointer (some ⟨B2, 0, none⟩)])
  k1 : ClosG 152 #[.pointer (some ⟨B1 + 1, 0, none⟩), .pointer (some ⟨B1, 0, none⟩)] 4194304 f1 u
  k2 : ClosG 152 #[.pointer (some ⟨B2 + 1, 0, none⟩), .pointer (some ⟨B2, 0, none⟩)] 4194304 f2 u
theorem Clo2.call {w : World} {b1 b2 B1 B2 : Nat} {f1 f2 : Nat → Int} {u v : World} (h : Clo2 w b1 b2 B1 B2 f1 f2 u) (hb : Below u.heap.size u v) : Clo2 w b1 b2 B1 B2 f1 f2 v :=
  ⟨(hb.cell (lt_of_cell h.v1)).trans h.v1, (hb.cell (lt_of_cell h.v2)).trans h.v2, h.k1.above hb, h.k2.above hb⟩

/-- A closure over a curve, as cells: what it reads is apart from the block b. -/
structure Far (B : Nat) (a : Option Addr) (n : Nat) (b : Nat) : Prop where
  h1 : ¬ B = b
  h2 : ¬ B + 1 = b
  h3 : ∀ x, a = some x → 1 ≤ n → ¬ x.block = b

theorem ClosP.store {w : World} {B : Nat} {a : Option Addr} {n cap : Nat} {zs : List Int} {p : Nat} {inc : Int} (h : ClosP w B a n cap zs p inc) {b : Nat} (hf : Far B a n b) (v : Value) : ClosP (w.setCell ⟨b, 0, none⟩ v) B a n cap zs p inc := by
  have hb : ∀ q o, ¬ q = b → (w.setCell ⟨b, 0, none⟩ v).cell? ⟨q, o, none⟩ = w.cell? ⟨q, o, none⟩ := fun q o hq => World.cell?_of_block (w := w) (a := ⟨q, o, none⟩) (Below.heap_setCell _ _ _ _ hq)
  exact ⟨(hb _ _ hf.h1).trans h.f0, (hb _ _ hf.h1).trans h.f1, (hb _ _ hf.h1).trans h.f2, (hb _ _ hf.h2).trans h.num, h.row.store (fun x hx hn => hf.h3 x hx hn) _ _, h.good⟩

theorem ClosP.clos {w : World} {B : Nat} {a : Option Addr} {n cap : Nat} {zs : List Int} {p : Nat} {inc : Int} (h : ClosP w B a n cap zs p inc) : ClosG 152 #[.pointer (some ⟨B + 1, 0, none⟩), .pointer (some ⟨B, 0, none⟩)] 4194304 (atC zs p inc) w := by
  rintro ti t v w' rfl h2 rfl h4
  exact atp_any _ a n cap zs p inc t (by omega) w' (h.under h4)

def GivesP (a : Option Addr) (n cap : Nat) (zs : List Int) (p : Nat) (inc : Int) (w : World) (e : Ending) (w' : World) : Prop :=
  ∃ B, e = .returned (.func (.func 152) #[] #[.pointer (some ⟨B + 1, 0, none⟩), .pointer (some ⟨B, 0, none⟩)]) ∧ Below w.heap.size w w' ∧ w.heap.size ≤ B ∧ B + 1 < w'.heap.size ∧ ClosP w' B a n cap zs p inc

set_option maxHeartbeats 800000 in
theorem pvalues_p (a : Option Addr) (n cap : Nat) (zs : List Int) (p : Nat) (inc : Int) (g : Good zs p inc) (w : World) (h : RowZ w a n cap zs) :
    Calls Try.prog 99 #[curV a n cap p inc] w (GivesP a n cap zs p inc w) := by
  have hmf : ∀ (fn : Fn) (first cap : Array Value) (w : World), (Instr.makeFunc fn first cap).run Try.prog w = .ok (.func fn first cap) w := fun _ _ _ _ => rfl
  have hB : Below w.heap.size w ((w.alloc (.cells #[.slice a n cap, .int .i64 p, .int .i64 inc] 26)).alloc (.cells #[.int .i64 n] 3)) := ((Below.refl _ _).alloc (Nat.le_refl _) _).alloc (by simp) _
  have HC : Hid (ClosP ((w.alloc (.cells #[.slice a n cap, .int .i64 p, .int .i64 inc] 26)).alloc (.cells #[.int .i64 n] 3)) w.heap.size a n cap zs p inc) := Lib.hid (by
    obtain ⟨c0, c1, c2, _, _, _⟩ := (Cur3.new w (.slice a n cap) (.int .i64 p) (.int .i64 inc) 26).alloc (.cells #[.int .i64 n] 3)
    exact ⟨c0, c1, c2, by go_simp, h.under hB, g⟩)
  have HB := Lib.hid hB
  clear h g hB
  go_enter Try.func99, Try.ntmps99
  go_wp2_with fail
  go_ret
  exact ⟨w.heap.size, rfl, HB.out, Nat.le_refl _, by simp, HC.out⟩

/-- What stands while the region runs: the boxes; no, one or both closures; no, one or both new boxes. -/
def Nil9 (w0 u : World) (b : Nat) : Prop := w0.heap.size ≤ b ∧ u.cell? ⟨b, 0, none⟩ = some .nilFunc ∧ u.frozen? ⟨b, 0, none⟩ = false
theorem Nil9.call {w0 u v : World} {b : Nat} (h : Nil9 w0 u b) (hb : Below u.heap.size u v) : Nil9 w0 v b := ⟨h.1, (hb.cell (lt_of_cell h.2.1)).trans h.2.1, (hb.frozen (p := ⟨b, 0, none⟩) (lt_of_cell h.2.1)).trans h.2.2⟩
theorem size_new (w : World) (o : Obj) : (w.alloc o).heap.size = w.heap.size + 1 := by simp
theorem Nil9.new {w0 u : World} (h : w0.heap.size ≤ u.heap.size) : Nil9 w0 (u.alloc (.cells #[.nilFunc] 51)) u.heap.size := ⟨h, new_cell _ _ _, by go_simp⟩

theorem Clo2.end {w u : World} {b9 b10 B1 B2 : Nat} {a1 a2 : Option Addr} {n1 cap1 p1 n2 cap2 p2 : Nat} {i1 i2 : Int} {z1 z2 : List Int} (h1 : ClosP u B1 a1 n1 cap1 z1 p1 i1) (h2 : ClosP u B2 a2 n2 cap2 z2 p2 i2) (hn : ¬ b9 = b10)
    (c9 : u.cell? ⟨b9, 0, none⟩ = some .nilFunc) (c10 : u.cell? ⟨b10, 0, none⟩ = some .nilFunc) (f19 : Far B1 a1 n1 b9) (f110 : Far B1 a1 n1 b10) (f29 : Far B2 a2 n2 b9) (f210 : Far B2 a2 n2 b10) :
    Clo2 w b9 b10 B1 B2 (atC z1 p1 i1) (atC z2 p2 i2) ((u.setCell ⟨b9, 0, none⟩ (.func (.func 152) #[] #[.pointer (some ⟨B1 + 1, 0, none⟩), .pointer (some ⟨B1, 0, none⟩)])).setCell ⟨b10, 0, none⟩ (.func (.func 152) #[] #[.pointer (some ⟨B2 + 1, 0, none⟩), .pointer (some ⟨B2, 0, none⟩)])) := by
  have e10 : (u.setCell ⟨b9, 0, none⟩ (.func (.func 152) #[] #[.pointer (some ⟨B1 + 1, 0, none⟩), .pointer (some ⟨B1, 0, none⟩)])).cell? ⟨b10, 0, none⟩ = some .nilFunc := by
    rw [World.cell?_setCell_other _ _ _ _ (fun h => hn (by cases h; rfl))]; exact c10
  refine ⟨?_, World.cell?_setCell_same _ _ _ e10, ((h1.store f19 _).store f110 _).clos, ((h2.store f29 _).store f210 _).clos⟩
  rw [World.cell?_setCell_other _ _ _ _ (fun h => hn (by cases h; rfl))]
  exact World.cell?_setCell_same _ _ _ c9

set_option maxRecDepth 100000 in
set_option maxHeartbeats 6400000 in
theorem pair_ok (fc : FuncId) (ch : Int → Int → Int) (hch : ChG fc ch) (ec : ∀ (args : Array Value) (w : World), (callFunc fc args).run Try.prog w = .ok (.enter fc args) w)
    (a1 : Option Addr) (n1 cap1 : Nat) (z1 : List Int) (p1 : Nat) (i1 : Int) (g1 : Good z1 p1 i1) (a2 : Option Addr) (n2 cap2 : Nat) (z2 : List Int) (p2 : Nat) (i2 : Int) (g2 : Good z2 p2 i2)
    {y1 y2 : List Int} {q1 q2 : Nat} {j1 j2 : Int} (hn1 : NormC z1 p1 i1 y1 q1 j1) (hn2 : NormC z2 p2 i2 y2 q2 j2) (L : Nat) (hL : q1 / Nat.gcd q1 q2 * q2 = L) (hL2 : L ≤ 120)
    (E : Nat → Option Int) (hE : PairOk ch E y1 q1 j1 y2 q2 j2) (w : World) (h1 : RowZ w a1 n1 cap1 z1) (h2 : RowZ w a2 n2 cap2 z2) :
    Calls Try.prog 120 #[curV a1 n1 cap1 p1 i1, curV a2 n2 cap2 p2 i2, .func (.func fc) #[] #[]] w (GivesE E w) := by
  have hmf : ∀ (fn : Fn) (first cap : Array Value) (w : World), (Instr.makeFunc fn first cap).run Try.prog w = .ok (.func fn first cap) w := fun _ _ _ _ => rfl
  obtain ⟨W, hW⟩ : ∃ W, (((w.alloc (.cells #[.slice a1 n1 cap1, .int .i64 p1, .int .i64 i1] 26)).alloc (.cells #[.slice a2 n2 cap2, .int .i64 p2, .int .i64 i2] 26)).alloc (.cells #[.func (.func fc) #[] #[]] 37)).alloc (.cells #[.slice none 0 0, .int .i64 0, .int .i64 0] 26) = W := ⟨_, rfl⟩
  obtain ⟨t0, hsz⟩ := two2_start (p1 := p1) (i1 := i1) (p2 := p2) (i2 := i2) h1 h2 fc hW
  have T0 := Lib.hid t0
  have HSZ := Lib.hid hsz
  have HW := Lib.hid hW
  have V1 := Lib.hid ((okC_iff z1 p1 i1).2 g1)
  have V2 := Lib.hid ((okC_iff z2 p2 i2).2 g2)
  have G1 := Lib.hid g1
  have G2 := Lib.hid g2
  have HN := Lib.hid (And.intro hn1 hn2)
  have HL := Lib.hid hL
  have HE := Lib.hid hE
  have HCH := Lib.hid hch
  have EC := Lib.hid ec
  obtain ⟨b1, b2, b3, b4, b5, b6⟩ := norm_p3 g1 hn1
  obtain ⟨d1, d2, d3, d4, d5, d6⟩ := norm_p3 g2 hn2
  have e1 : In64 (p1 : Int) := ⟨by omega, by have := g1.p2; omega⟩
  have e2 : In64 (p2 : Int) := ⟨by omega, by have := g2.p2; omega⟩
  have e3 : In64 i1 := ⟨by have := g1.i0; omega, by have := g1.i1; omega⟩
  have e4 : In64 i2 := ⟨by have := g2.i0; omega, by have := g2.i1; omega⟩
  have HI := Lib.hid (And.intro (And.intro e1 e3) (And.intro e2 e4))
  have hL1 : 1 ≤ L := (lcm_of b1 d1 hL).one
  have hL3 : ¬ (120 : Int) < (L : Int) := by omega
  clear t0 hsz hW g1 g2 hn1 hn2 hL hE hch h1 h2 e1 e2 e3 e4 ec
  go_enter Try.func120, Try.ntmps120
  go_wp2_with fail
  rw [HW.out]
  refine (valid_any a1 n1 cap1 z1 p1 i1 HI.out.1.1 HI.out.1.2 true V1.out _ T0.out.r1).mono ?_
  rintro e w1 ⟨rfl, hb⟩
  have T1 := Lib.hid (T0.out.call hb)
  obtain ⟨c0, c1, c2, f0, f1, f2⟩ := T1.out.c2
  have hs1 := Nat.le_trans (Nat.le_of_eq HSZ.out.symm) hb.size
  have HS1 := Lib.hid hs1
  clear hb hs1
  go_wp2_with fail
  refine (valid_any a2 n2 cap2 z2 p2 i2 HI.out.2.1 HI.out.2.2 true V2.out _ T1.out.r2).mono ?_
  rintro e w2 ⟨rfl, hb⟩
  have T2 := Lib.hid (T1.out.call hb)
  have HS2 := Lib.hid (Nat.le_trans HS1.out hb.size)
  clear hb c0 c1 c2 f0 f1 f2
  obtain ⟨c0, c1, c2, f0, f1, f2⟩ := T2.out.c1
  go_wp2_with fail
  refine (normal_ok a1 n1 cap1 z1 p1 i1 G1.out _ T2.out.r1).mono ?_
  rintro e w3 ⟨a3, n3, cap3, x1, r1, k1, rfl, hb, hr, hn, hx⟩
  obtain ⟨rfl, rfl, rfl⟩ := hn.canon G1.out G1.out HN.out.1 (fun _ => rfl)
  obtain ⟨W3, hW3⟩ : ∃ W3, (((w3.setCell ⟨w.heap.size, 0, none⟩ (.slice a3 n3 cap3)).setCell ⟨w.heap.size, 1, none⟩ (.int .i64 r1)).setCell ⟨w.heap.size, 2, none⟩ (.int .i64 k1)) = W3 := ⟨_, rfl⟩
  have T3 := Lib.hid (show Two2 w fc a3 n3 cap3 r1 k1 x1 a2 n2 cap2 p2 i2 z2 W3 by rw [← hW3]; exact (T2.out.call hb).put1 hr (fun x h => by have := hx x h; have := HS2.out; omega))
  have HS3 := Lib.hid (show w.heap.size + 4 ≤ W3.heap.size by rw [← hW3]; have := hb.size; have := HS2.out; simp [World.setCell]; omega)
  have HW3 := Lib.hid hW3
  have g3 := T2.out.c2.below hb
  clear c0 c1 c2 f0 f1 f2
  obtain ⟨c0, c1, c2, f0, f1, f2⟩ := T2.out.c1.below hb
  obtain ⟨d0', d1', d2', g0', g1', g2'⟩ := g3
  clear hb hr hn hx hW3
  go_wp2_with fail
  rw [HW3.out]
  refine (normal_ok a2 n2 cap2 z2 p2 i2 G2.out _ T3.out.r2).mono ?_
  rintro e w4 ⟨a4, n4, cap4, x2, r2, k2, rfl, hb, hr, hn, hx⟩
  obtain ⟨rfl, rfl, rfl⟩ := hn.canon G2.out G2.out HN.out.2 (fun _ => rfl)
  obtain ⟨W4, hW4⟩ : ∃ W4, (((w4.setCell ⟨w.heap.size + 1, 0, none⟩ (.slice a4 n4 cap4)).setCell ⟨w.heap.size + 1, 1, none⟩ (.int .i64 r2)).setCell ⟨w.heap.size + 1, 2, none⟩ (.int .i64 k2)) = W4 := ⟨_, rfl⟩
  have T4 := Lib.hid (show Two2 w fc a3 n3 cap3 r1 k1 x1 a4 n4 cap4 r2 k2 x2 W4 by rw [← hW4]; exact (T3.out.call hb).put2 hr (fun x h => by have := hx x h; have := HS3.out; omega))
  have HW4 := Lib.hid hW4
  clear c0 c1 c2 f0 f1 f2 d0' d1' d2' g0' g1' g2'
  obtain ⟨c0, c1, c2, f0, f1, f2⟩ := T3.out.c2.below hb
  have g4 := T3.out.c1.below hb
  obtain ⟨d0', d1', d2', g0', g1', g2'⟩ := g4
  clear hb hr hn hx hW4
  go_wp2_with fail
  rw [HW4.out]
  refine (common_any r1 r2 L HL.out b1 (by omega) d1 (by omega) _).mono ?_
  rintro e w5 ⟨rfl, hd5⟩
  have T5 := Lib.hid (T4.out.call (below_dr (Below.refl _ _) hd5))
  clear c0 c1 c2 f0 f1 f2 d0' d1' d2' g0' g1' g2' hd5
  obtain ⟨c0, c1, c2, f0, f1, f2⟩ := T5.out.c1
  obtain ⟨d0', d1', d2', g0', g1', g2'⟩ := T5.out.c2
  have GX := Lib.hid (And.intro (HN.out.1.good G1.out) (HN.out.2.good G2.out))
  go_wp2_with fail
  have lw := T5.out.c2.lt
  have q0 : w.heap.size < w5.heap.size ∧ ¬ w.heap.size = w5.heap.size ∧ w.heap.size < w5.heap.size + 1 ∧ ¬ w.heap.size = w5.heap.size + 1 := by omega
  have q4 : w.heap.size + 1 < w5.heap.size ∧ ¬ w.heap.size + 1 = w5.heap.size ∧ w.heap.size + 1 < w5.heap.size + 1 ∧ ¬ w.heap.size + 1 = w5.heap.size + 1 := by omega
  obtain ⟨q0, q1, q2, q3⟩ := q0
  obtain ⟨q4, q5, q6, q7⟩ := q4
  have hn2 : ∀ n : Nat, n < n + 1 + 1 := fun n => by omega
  go_cut [9, 10] (fun s9 s10 wx => ∃ b9 b10 B1 B2 : Nat, s9 = .pointer (some ⟨b9, 0, none⟩) ∧ s10 = .pointer (some ⟨b10, 0, none⟩) ∧ Hid (Two2 w fc a3 n3 cap3 r1 k1 x1 a4 n4 cap4 r2 k2 x2 wx) ∧ Hid (Clo2 w b9 b10 B1 B2 (atC x1 r1 k1) (atC x2 r2 k2) wx))
  case first =>
    have r3lt := T5.out.r1.far
    have r4lt := T5.out.r2.far
    have KS8 := Lib.hid (show ∀ u, Two2 w fc a3 n3 cap3 r1 k1 x1 a4 n4 cap4 r2 k2 x2 u ∧ Below w5.heap.size w5 u → (fun u => (u.cell? ⟨w.heap.size, 0, none⟩ = some (.slice a3 n3 cap3) ∧ u.cell? ⟨w.heap.size, 1, none⟩ = some (.int .i64 r1) ∧ u.cell? ⟨w.heap.size, 2, none⟩ = some (.int .i64 k1)) ∧ (u.cell? ⟨w.heap.size + 1, 0, none⟩ = some (.slice a4 n4 cap4) ∧ u.cell? ⟨w.heap.size + 1, 1, none⟩ = some (.int .i64 r2) ∧ u.cell? ⟨w.heap.size + 1, 2, none⟩ = some (.int .i64 k2)) ∧ Hid (Two2 w fc a3 n3 cap3 r1 k1 x1 a4 n4 cap4 r2 k2 x2 u ∧ Below w5.heap.size w5 u)) u from fun u hu => ⟨⟨hu.1.c1.c0, hu.1.c1.c1, hu.1.c1.c2⟩, ⟨hu.1.c2.c0, hu.1.c2.c1, hu.1.c2.c2⟩, hu⟩)
    have zd : w5.drew.heap.size = w5.heap.size := rfl
    have T0' := Lib.hid (And.intro (T5.out.call (Below.drew (Below.refl _ _))) (Below.drew (Below.refl w5.heap.size w5)))
    clear zd c0 c1 c2 f0 f1 f2 d0' d1' d2' g0' g1' g2' q0 q1 q2 q3 q4 q5 q6 q7 lw hn2 b1 b2 b3 b4 b5 b6 d1 d2 d3 d4 d5 d6 hL1 hL2 hL3
    refine wp_region_keeps (fun u => (u.cell? ⟨w.heap.size, 0, none⟩ = some (.slice a3 n3 cap3) ∧ u.cell? ⟨w.heap.size, 1, none⟩ = some (.int .i64 r1) ∧ u.cell? ⟨w.heap.size, 2, none⟩ = some (.int .i64 k1)) ∧ (u.cell? ⟨w.heap.size + 1, 0, none⟩ = some (.slice a4 n4 cap4) ∧ u.cell? ⟨w.heap.size + 1, 1, none⟩ = some (.int .i64 r2) ∧ u.cell? ⟨w.heap.size + 1, 2, none⟩ = some (.int .i64 k2)) ∧ Hid (Two2 w fc a3 n3 cap3 r1 k1 x1 a4 n4 cap4 r2 k2 x2 u ∧ Below w5.heap.size w5 u)) 6 2 (by kernel_rfl) (by kernel_rfl) (KS8.out _ T0'.out) (fun hHeld0 => ?_)
    refine wpAnyK_take (i := 0) (v := ?_) rfl (by kernel_rfl) (fun _ _ _ h => h) (Or.inl ⟨by rfl, ?_⟩) (by assumption) ?_
    rotate_left
    · (intro w hSw; (try dsimp only at hSw); go_simp; try with_reducible rfl)
    try simp only [Act.put, List.getElem_toArray, List.getElem_cons_zero, List.getElem_cons_succ, List.setIfInBounds_toArray, List.set_cons_zero, List.set_cons_succ]
    refine wpAnyK_take (i := 2) (v := ?_) rfl (by kernel_rfl) (fun _ _ _ h => h) (Or.inl ⟨by rfl, ?_⟩) (by assumption) ?_
    rotate_left
    · (intro w hSw; (try dsimp only at hSw); go_simp; try with_reducible rfl)
    try simp only [Act.put, List.getElem_toArray, List.getElem_cons_zero, List.getElem_cons_succ, List.setIfInBounds_toArray, List.set_cons_zero, List.set_cons_succ]
    refine wpAnyK_three (i := 1) (j := 4) (k := 5) rfl rfl rfl (by kernel_rfl) (fun K hK => ?_) (fun K hK => ?_) (fun K hK => ?_)
    · go_simp
      with_reducible refine (pvalues_p a3 n3 cap3 x1 r1 k1 GX.out.1 _ T0'.out.1.r1).mono ?_
      rintro e ux1 ⟨Bx1, rfl, hbx1, hlx1, hmx1, hcx1⟩
      have Tx1 := Lib.hid (And.intro (T0'.out.1.call hbx1) (T0'.out.2.trans (hbx1.mono T0'.out.2.size)))
      have zx1 := Lib.hid (And.intro hbx1.size (And.intro hlx1 hmx1))
      have C1 := Lib.hid hcx1
      clear hlx1 hmx1 hcx1
      refine hK.out _ _ (KS8.out _ Tx1.out) (fun hHeld1 => ?_)
      clear hK K hHeld0 hbx1
      try simp only [Act.put, List.getElem_toArray, List.getElem_cons_zero, List.getElem_cons_succ, List.setIfInBounds_toArray, List.set_cons_zero, List.set_cons_succ]
      refine wpAnyK_three (i := 3) (j := 4) (k := 5) rfl rfl rfl (by kernel_rfl) (fun K hK => ?_) (fun K hK => ?_) (fun K hK => ?_)
      · go_simp
        with_reducible refine (pvalues_p a4 n4 cap4 x2 r2 k2 GX.out.2 _ Tx1.out.1.r2).mono ?_
        rintro e ux2 ⟨Bx2, rfl, hbx2, hlx2, hmx2, hcx2⟩
        have Tx2 := Lib.hid (And.intro (Tx1.out.1.call hbx2) (Tx1.out.2.trans (hbx2.mono Tx1.out.2.size)))
        have zx2 := Lib.hid (And.intro hbx2.size (And.intro hlx2 hmx2))
        have C2 := Lib.hid hcx2
        clear hlx2 hmx2 hcx2
        have C1_2 := Lib.hid (C1.out.under hbx2)
        refine hK.out _ _ (KS8.out _ Tx2.out) (fun hHeld2 => ?_)
        clear hK K hHeld1 hbx2
        try simp only [Act.put, List.getElem_toArray, List.getElem_cons_zero, List.getElem_cons_succ, List.setIfInBounds_toArray, List.set_cons_zero, List.set_cons_succ]
        refine wpAnyK_two (i := 4) (j := 5) rfl rfl (by kernel_rfl) (fun K hK => ?_) (fun K hK => ?_)
        · go_simp
          obtain ⟨ux3, hux3⟩ : ∃ W, ux2.alloc (.cells #[.nilFunc] 51) = W := ⟨_, rfl⟩
          have hv3 := hux3
          have hbx3 : Below ux2.heap.size ux2 ux3 := by rw [← hux3]; exact (Below.refl _ _).alloc (Nat.le_refl _) _
          have N3 := Lib.hid (show Nil9 w5 ux3 ux2.heap.size by rw [← hux3]; exact Nil9.new Tx2.out.2.size)
          have zx3 := Lib.hid (show ux3.heap.size = ux2.heap.size + 1 by rw [← hux3]; exact size_new _ _)
          rw [hv3]
          clear hux3 hv3
          have Tx3 := Lib.hid (And.intro (Tx2.out.1.call hbx3) (Tx2.out.2.trans (hbx3.mono Tx2.out.2.size)))
          have C1_2_3 := Lib.hid (C1_2.out.under hbx3)
          have C2_3 := Lib.hid (C2.out.under hbx3)
          refine hK.out _ _ (KS8.out _ Tx3.out) (fun hHeld3 => ?_)
          clear hK K hHeld2 hbx3
          try simp only [Act.put, List.getElem_toArray, List.getElem_cons_zero, List.getElem_cons_succ, List.setIfInBounds_toArray, List.set_cons_zero, List.set_cons_succ]
          refine wpAnyK_step (i := 5) rfl (by kernel_rfl) (fun K hK => ?_)
          go_simp
          obtain ⟨ux4, hux4⟩ : ∃ W, ux3.alloc (.cells #[.nilFunc] 51) = W := ⟨_, rfl⟩
          have hv4 := hux4
          have hbx4 : Below ux3.heap.size ux3 ux4 := by rw [← hux4]; exact (Below.refl _ _).alloc (Nat.le_refl _) _
          have N4 := Lib.hid (show Nil9 w5 ux4 ux3.heap.size by rw [← hux4]; exact Nil9.new Tx3.out.2.size)
          have zx4 := Lib.hid (show ux4.heap.size = ux3.heap.size + 1 by rw [← hux4]; exact size_new _ _)
          rw [hv4]
          clear hux4 hv4
          have Tx4 := Lib.hid (And.intro (Tx3.out.1.call hbx4) (Tx3.out.2.trans (hbx4.mono Tx3.out.2.size)))
          have C1_2_3_4 := Lib.hid (C1_2_3.out.under hbx4)
          have C2_3_4 := Lib.hid (C2_3.out.under hbx4)
          have N3_4 := Lib.hid (N3.out.call hbx4)
          refine hK.out _ _ (KS8.out _ Tx4.out) (fun hHeld4 => ?_)
          clear hK K hHeld3 hbx4
          try simp only [Act.put, List.getElem_toArray, List.getElem_cons_zero, List.getElem_cons_succ, List.setIfInBounds_toArray, List.set_cons_zero, List.set_cons_succ]
          refine wpAnyK_done (by kernel_rfl) ?_
          simp only [List.drop_succ_cons, List.drop_zero]
          have yx1 := zx1.out
          have yx2 := zx2.out
          have yx3 := zx3.out
          have yx4 := zx4.out
          have vx9 := N3_4.out.1
          have vx10 := N4.out.1
          have HF8 := Lib.hid (Clo2.end (w := w) C1_2_3_4.out C2_3_4.out (b9 := ux2.heap.size) (b10 := ux3.heap.size) (by omega) N3_4.out.2.1 N4.out.2.1 ⟨by omega, by omega, fun x hx hn => by have := r3lt x hx hn; omega⟩ ⟨by omega, by omega, fun x hx hn => by have := r3lt x hx hn; omega⟩ ⟨by omega, by omega, fun x hx hn => by have := r4lt x hx hn; omega⟩ ⟨by omega, by omega, fun x hx hn => by have := r4lt x hx hn; omega⟩)
          have HT8 := Lib.hid (T5.out.call ((Tx4.out.2.setCell (p := ⟨ux2.heap.size, 0, none⟩) (by show w5.heap.size ≤ ux2.heap.size; omega) (.func (.func 152) #[] #[.pointer (some ⟨Bx1 + 1, 0, none⟩), .pointer (some ⟨Bx1, 0, none⟩)])).setCell (p := ⟨ux3.heap.size, 0, none⟩) (by show w5.heap.size ≤ ux3.heap.size; omega) (.func (.func 152) #[] #[.pointer (some ⟨Bx2 + 1, 0, none⟩), .pointer (some ⟨Bx2, 0, none⟩)])))
          obtain ⟨g1, g2, g3⟩ := N3_4.out
          obtain ⟨g4, g5, g6⟩ := N4.out
          have gn : ¬ ux2.heap.size = ux3.heap.size := by omega
          have gn' : ¬ ux3.heap.size = ux2.heap.size := by omega
          clear yx1 yx2 yx3 yx4 vx9 vx10
          clear hHeld4
          go_wp2_with fail
          go_meet
          exact ⟨ux2.heap.size, ux3.heap.size, Bx1, Bx2, rfl, rfl, HT8, HF8⟩
        · go_simp
          obtain ⟨ux5, hux5⟩ : ∃ W, ux2.alloc (.cells #[.nilFunc] 51) = W := ⟨_, rfl⟩
          have hv5 := hux5
          have hbx5 : Below ux2.heap.size ux2 ux5 := by rw [← hux5]; exact (Below.refl _ _).alloc (Nat.le_refl _) _
          have N5 := Lib.hid (show Nil9 w5 ux5 ux2.heap.size by rw [← hux5]; exact Nil9.new Tx2.out.2.size)
          have zx5 := Lib.hid (show ux5.heap.size = ux2.heap.size + 1 by rw [← hux5]; exact size_new _ _)
          rw [hv5]
          clear hux5 hv5
          have Tx5 := Lib.hid (And.intro (Tx2.out.1.call hbx5) (Tx2.out.2.trans (hbx5.mono Tx2.out.2.size)))
          have C1_2_5 := Lib.hid (C1_2.out.under hbx5)
          have C2_5 := Lib.hid (C2.out.under hbx5)
          refine hK.out _ _ (KS8.out _ Tx5.out) (fun hHeld5 => ?_)
          clear hK K hHeld2 hbx5
          try simp only [Act.put, List.getElem_toArray, List.getElem_cons_zero, List.getElem_cons_succ, List.setIfInBounds_toArray, List.set_cons_zero, List.set_cons_succ]
          refine wpAnyK_step (i := 4) rfl (by kernel_rfl) (fun K hK => ?_)
          go_simp
          obtain ⟨ux6, hux6⟩ : ∃ W, ux5.alloc (.cells #[.nilFunc] 51) = W := ⟨_, rfl⟩
          have hv6 := hux6
          have hbx6 : Below ux5.heap.size ux5 ux6 := by rw [← hux6]; exact (Below.refl _ _).alloc (Nat.le_refl _) _
          have N6 := Lib.hid (show Nil9 w5 ux6 ux5.heap.size by rw [← hux6]; exact Nil9.new Tx5.out.2.size)
          have zx6 := Lib.hid (show ux6.heap.size = ux5.heap.size + 1 by rw [← hux6]; exact size_new _ _)
          rw [hv6]
          clear hux6 hv6
          have Tx6 := Lib.hid (And.intro (Tx5.out.1.call hbx6) (Tx5.out.2.trans (hbx6.mono Tx5.out.2.size)))
          have C1_2_5_6 := Lib.hid (C1_2_5.out.under hbx6)
          have C2_5_6 := Lib.hid (C2_5.out.under hbx6)
          have N5_6 := Lib.hid (N5.out.call hbx6)
          refine hK.out _ _ (KS8.out _ Tx6.out) (fun hHeld6 => ?_)
          clear hK K hHeld5 hbx6
          try simp only [Act.put, List.getElem_toArray, List.getElem_cons_zero, List.getElem_cons_succ, List.setIfInBounds_toArray, List.set_cons_zero, List.set_cons_succ]
          refine wpAnyK_done (by kernel_rfl) ?_
          simp only [List.drop_succ_cons, List.drop_zero]
          have yx1 := zx1.out
          have yx2 := zx2.out
          have yx5 := zx5.out
          have yx6 := zx6.out
          have vx9 := N6.out.1
          have vx10 := N5_6.out.1
          have HF8 := Lib.hid (Clo2.end (w := w) C1_2_5_6.out C2_5_6.out (b9 := ux5.heap.size) (b10 := ux2.heap.size) (by omega) N6.out.2.1 N5_6.out.2.1 ⟨by omega, by omega, fun x hx hn => by have := r3lt x hx hn; omega⟩ ⟨by omega, by omega, fun x hx hn => by have := r3lt x hx hn; omega⟩ ⟨by omega, by omega, fun x hx hn => by have := r4lt x hx hn; omega⟩ ⟨by omega, by omega, fun x hx hn => by have := r4lt x hx hn; omega⟩)
          have HT8 := Lib.hid (T5.out.call ((Tx6.out.2.setCell (p := ⟨ux5.heap.size, 0, none⟩) (by show w5.heap.size ≤ ux5.heap.size; omega) (.func (.func 152) #[] #[.pointer (some ⟨Bx1 + 1, 0, none⟩), .pointer (some ⟨Bx1, 0, none⟩)])).setCell (p := ⟨ux2.heap.size, 0, none⟩) (by show w5.heap.size ≤ ux2.heap.size; omega) (.func (.func 152) #[] #[.pointer (some ⟨Bx2 + 1, 0, none⟩), .pointer (some ⟨Bx2, 0, none⟩)])))
          obtain ⟨g1, g2, g3⟩ := N6.out
          obtain ⟨g4, g5, g6⟩ := N5_6.out
          have gn : ¬ ux5.heap.size = ux2.heap.size := by omega
          have gn' : ¬ ux2.heap.size = ux5.heap.size := by omega
          clear yx1 yx2 yx5 yx6 vx9 vx10
          clear hHeld6
          go_wp2_with fail
          go_meet
          exact ⟨ux5.heap.size, ux2.heap.size, Bx1, Bx2, rfl, rfl, HT8, HF8⟩
      · go_simp
        obtain ⟨ux7, hux7⟩ : ∃ W, ux1.alloc (.cells #[.nilFunc] 51) = W := ⟨_, rfl⟩
        have hv7 := hux7
        have hbx7 : Below ux1.heap.size ux1 ux7 := by rw [← hux7]; exact (Below.refl _ _).alloc (Nat.le_refl _) _
        have N7 := Lib.hid (show Nil9 w5 ux7 ux1.heap.size by rw [← hux7]; exact Nil9.new Tx1.out.2.size)
        have zx7 := Lib.hid (show ux7.heap.size = ux1.heap.size + 1 by rw [← hux7]; exact size_new _ _)
        rw [hv7]
        clear hux7 hv7
        have Tx7 := Lib.hid (And.intro (Tx1.out.1.call hbx7) (Tx1.out.2.trans (hbx7.mono Tx1.out.2.size)))
        have C1_7 := Lib.hid (C1.out.under hbx7)
        refine hK.out _ _ (KS8.out _ Tx7.out) (fun hHeld7 => ?_)
        clear hK K hHeld1 hbx7
        try simp only [Act.put, List.getElem_toArray, List.getElem_cons_zero, List.getElem_cons_succ, List.setIfInBounds_toArray, List.set_cons_zero, List.set_cons_succ]
        refine wpAnyK_two (i := 3) (j := 5) rfl rfl (by kernel_rfl) (fun K hK => ?_) (fun K hK => ?_)
        · go_simp
          with_reducible refine (pvalues_p a4 n4 cap4 x2 r2 k2 GX.out.2 _ Tx7.out.1.r2).mono ?_
          rintro e ux8 ⟨Bx8, rfl, hbx8, hlx8, hmx8, hcx8⟩
          have Tx8 := Lib.hid (And.intro (Tx7.out.1.call hbx8) (Tx7.out.2.trans (hbx8.mono Tx7.out.2.size)))
          have zx8 := Lib.hid (And.intro hbx8.size (And.intro hlx8 hmx8))
          have C8 := Lib.hid hcx8
          clear hlx8 hmx8 hcx8
          have C1_7_8 := Lib.hid (C1_7.out.under hbx8)
          have N7_8 := Lib.hid (N7.out.call hbx8)
          refine hK.out _ _ (KS8.out _ Tx8.out) (fun hHeld8 => ?_)
          clear hK K hHeld7 hbx8
          try simp only [Act.put, List.getElem_toArray, List.getElem_cons_zero, List.getElem_cons_succ, List.setIfInBounds_toArray, List.set_cons_zero, List.set_cons_succ]
          refine wpAnyK_step (i := 5) rfl (by kernel_rfl) (fun K hK => ?_)
          go_simp
          obtain ⟨ux9, hux9⟩ : ∃ W, ux8.alloc (.cells #[.nilFunc] 51) = W := ⟨_, rfl⟩
          have hv9 := hux9
          have hbx9 : Below ux8.heap.size ux8 ux9 := by rw [← hux9]; exact (Below.refl _ _).alloc (Nat.le_refl _) _
          have N9 := Lib.hid (show Nil9 w5 ux9 ux8.heap.size by rw [← hux9]; exact Nil9.new Tx8.out.2.size)
          have zx9 := Lib.hid (show ux9.heap.size = ux8.heap.size + 1 by rw [← hux9]; exact size_new _ _)
          rw [hv9]
          clear hux9 hv9
          have Tx9 := Lib.hid (And.intro (Tx8.out.1.call hbx9) (Tx8.out.2.trans (hbx9.mono Tx8.out.2.size)))
          have C1_7_8_9 := Lib.hid (C1_7_8.out.under hbx9)
          have C8_9 := Lib.hid (C8.out.under hbx9)
          have N7_8_9 := Lib.hid (N7_8.out.call hbx9)
          refine hK.out _ _ (KS8.out _ Tx9.out) (fun hHeld9 => ?_)
          clear hK K hHeld8 hbx9
          try simp only [Act.put, List.getElem_toArray, List.getElem_cons_zero, List.getElem_cons_succ, List.setIfInBounds_toArray, List.set_cons_zero, List.set_cons_succ]
          refine wpAnyK_done (by kernel_rfl) ?_
          simp only [List.drop_succ_cons, List.drop_zero]
          have yx1 := zx1.out
          have yx7 := zx7.out
          have yx8 := zx8.out
          have yx9 := zx9.out
          have vx9 := N7_8_9.out.1
          have vx10 := N9.out.1
          have HF8 := Lib.hid (Clo2.end (w := w) C1_7_8_9.out C8_9.out (b9 := ux1.heap.size) (b10 := ux8.heap.size) (by omega) N7_8_9.out.2.1 N9.out.2.1 ⟨by omega, by omega, fun x hx hn => by have := r3lt x hx hn; omega⟩ ⟨by omega, by omega, fun x hx hn => by have := r3lt x hx hn; omega⟩ ⟨by omega, by omega, fun x hx hn => by have := r4lt x hx hn; omega⟩ ⟨by omega, by omega, fun x hx hn => by have := r4lt x hx hn; omega⟩)
          have HT8 := Lib.hid (T5.out.call ((Tx9.out.2.setCell (p := ⟨ux1.heap.size, 0, none⟩) (by show w5.heap.size ≤ ux1.heap.size; omega) (.func (.func 152) #[] #[.pointer (some ⟨Bx1 + 1, 0, none⟩), .pointer (some ⟨Bx1, 0, none⟩)])).setCell (p := ⟨ux8.heap.size, 0, none⟩) (by show w5.heap.size ≤ ux8.heap.size; omega) (.func (.func 152) #[] #[.pointer (some ⟨Bx8 + 1, 0, none⟩), .pointer (some ⟨Bx8, 0, none⟩)])))
          obtain ⟨g1, g2, g3⟩ := N7_8_9.out
          obtain ⟨g4, g5, g6⟩ := N9.out
          have gn : ¬ ux1.heap.size = ux8.heap.size := by omega
          have gn' : ¬ ux8.heap.size = ux1.heap.size := by omega
          clear yx1 yx7 yx8 yx9 vx9 vx10
          clear hHeld9
          go_wp2_with fail
          go_meet
          exact ⟨ux1.heap.size, ux8.heap.size, Bx1, Bx8, rfl, rfl, HT8, HF8⟩
        · go_simp
          obtain ⟨ux10, hux10⟩ : ∃ W, ux7.alloc (.cells #[.nilFunc] 51) = W := ⟨_, rfl⟩
          have hv10 := hux10
          have hbx10 : Below ux7.heap.size ux7 ux10 := by rw [← hux10]; exact (Below.refl _ _).alloc (Nat.le_refl _) _
          have N10 := Lib.hid (show Nil9 w5 ux10 ux7.heap.size by rw [← hux10]; exact Nil9.new Tx7.out.2.size)
          have zx10 := Lib.hid (show ux10.heap.size = ux7.heap.size + 1 by rw [← hux10]; exact size_new _ _)
          rw [hv10]
          clear hux10 hv10
          have Tx10 := Lib.hid (And.intro (Tx7.out.1.call hbx10) (Tx7.out.2.trans (hbx10.mono Tx7.out.2.size)))
          have C1_7_10 := Lib.hid (C1_7.out.under hbx10)
          have N7_10 := Lib.hid (N7.out.call hbx10)
          refine hK.out _ _ (KS8.out _ Tx10.out) (fun hHeld10 => ?_)
          clear hK K hHeld7 hbx10
          try simp only [Act.put, List.getElem_toArray, List.getElem_cons_zero, List.getElem_cons_succ, List.setIfInBounds_toArray, List.set_cons_zero, List.set_cons_succ]
          refine wpAnyK_step (i := 3) rfl (by kernel_rfl) (fun K hK => ?_)
          go_simp
          with_reducible refine (pvalues_p a4 n4 cap4 x2 r2 k2 GX.out.2 _ Tx10.out.1.r2).mono ?_
          rintro e ux11 ⟨Bx11, rfl, hbx11, hlx11, hmx11, hcx11⟩
          have Tx11 := Lib.hid (And.intro (Tx10.out.1.call hbx11) (Tx10.out.2.trans (hbx11.mono Tx10.out.2.size)))
          have zx11 := Lib.hid (And.intro hbx11.size (And.intro hlx11 hmx11))
          have C11 := Lib.hid hcx11
          clear hlx11 hmx11 hcx11
          have C1_7_10_11 := Lib.hid (C1_7_10.out.under hbx11)
          have N7_10_11 := Lib.hid (N7_10.out.call hbx11)
          have N10_11 := Lib.hid (N10.out.call hbx11)
          refine hK.out _ _ (KS8.out _ Tx11.out) (fun hHeld11 => ?_)
          clear hK K hHeld10 hbx11
          try simp only [Act.put, List.getElem_toArray, List.getElem_cons_zero, List.getElem_cons_succ, List.setIfInBounds_toArray, List.set_cons_zero, List.set_cons_succ]
          refine wpAnyK_done (by kernel_rfl) ?_
          simp only [List.drop_succ_cons, List.drop_zero]
          have yx1 := zx1.out
          have yx7 := zx7.out
          have yx10 := zx10.out
          have yx11 := zx11.out
          have vx9 := N7_10_11.out.1
          have vx10 := N10_11.out.1
          have HF8 := Lib.hid (Clo2.end (w := w) C1_7_10_11.out C11.out (b9 := ux1.heap.size) (b10 := ux7.heap.size) (by omega) N7_10_11.out.2.1 N10_11.out.2.1 ⟨by omega, by omega, fun x hx hn => by have := r3lt x hx hn; omega⟩ ⟨by omega, by omega, fun x hx hn => by have := r3lt x hx hn; omega⟩ ⟨by omega, by omega, fun x hx hn => by have := r4lt x hx hn; omega⟩ ⟨by omega, by omega, fun x hx hn => by have := r4lt x hx hn; omega⟩)
          have HT8 := Lib.hid (T5.out.call ((Tx11.out.2.setCell (p := ⟨ux1.heap.size, 0, none⟩) (by show w5.heap.size ≤ ux1.heap.size; omega) (.func (.func 152) #[] #[.pointer (some ⟨Bx1 + 1, 0, none⟩), .pointer (some ⟨Bx1, 0, none⟩)])).setCell (p := ⟨ux7.heap.size, 0, none⟩) (by show w5.heap.size ≤ ux7.heap.size; omega) (.func (.func 152) #[] #[.pointer (some ⟨Bx11 + 1, 0, none⟩), .pointer (some ⟨Bx11, 0, none⟩)])))
          obtain ⟨g1, g2, g3⟩ := N7_10_11.out
          obtain ⟨g4, g5, g6⟩ := N10_11.out
          have gn : ¬ ux1.heap.size = ux7.heap.size := by omega
          have gn' : ¬ ux7.heap.size = ux1.heap.size := by omega
          clear yx1 yx7 yx10 yx11 vx9 vx10
          clear hHeld11
          go_wp2_with fail
          go_meet
          exact ⟨ux1.heap.size, ux7.heap.size, Bx1, Bx11, rfl, rfl, HT8, HF8⟩
      · go_simp
        obtain ⟨ux12, hux12⟩ : ∃ W, ux1.alloc (.cells #[.nilFunc] 51) = W := ⟨_, rfl⟩
        have hv12 := hux12
        have hbx12 : Below ux1.heap.size ux1 ux12 := by rw [← hux12]; exact (Below.refl _ _).alloc (Nat.le_refl _) _
        have N12 := Lib.hid (show Nil9 w5 ux12 ux1.heap.size by rw [← hux12]; exact Nil9.new Tx1.out.2.size)
        have zx12 := Lib.hid (show ux12.heap.size = ux1.heap.size + 1 by rw [← hux12]; exact size_new _ _)
        rw [hv12]
        clear hux12 hv12
        have Tx12 := Lib.hid (And.intro (Tx1.out.1.call hbx12) (Tx1.out.2.trans (hbx12.mono Tx1.out.2.size)))
        have C1_12 := Lib.hid (C1.out.under hbx12)
        refine hK.out _ _ (KS8.out _ Tx12.out) (fun hHeld12 => ?_)
        clear hK K hHeld1 hbx12
        try simp only [Act.put, List.getElem_toArray, List.getElem_cons_zero, List.getElem_cons_succ, List.setIfInBounds_toArray, List.set_cons_zero, List.set_cons_succ]
        refine wpAnyK_two (i := 3) (j := 4) rfl rfl (by kernel_rfl) (fun K hK => ?_) (fun K hK => ?_)
        · go_simp
          with_reducible refine (pvalues_p a4 n4 cap4 x2 r2 k2 GX.out.2 _ Tx12.out.1.r2).mono ?_
          rintro e ux13 ⟨Bx13, rfl, hbx13, hlx13, hmx13, hcx13⟩
          have Tx13 := Lib.hid (And.intro (Tx12.out.1.call hbx13) (Tx12.out.2.trans (hbx13.mono Tx12.out.2.size)))
          have zx13 := Lib.hid (And.intro hbx13.size (And.intro hlx13 hmx13))
          have C13 := Lib.hid hcx13
          clear hlx13 hmx13 hcx13
          have C1_12_13 := Lib.hid (C1_12.out.under hbx13)
          have N12_13 := Lib.hid (N12.out.call hbx13)
          refine hK.out _ _ (KS8.out _ Tx13.out) (fun hHeld13 => ?_)
          clear hK K hHeld12 hbx13
          try simp only [Act.put, List.getElem_toArray, List.getElem_cons_zero, List.getElem_cons_succ, List.setIfInBounds_toArray, List.set_cons_zero, List.set_cons_succ]
          refine wpAnyK_step (i := 4) rfl (by kernel_rfl) (fun K hK => ?_)
          go_simp
          obtain ⟨ux14, hux14⟩ : ∃ W, ux13.alloc (.cells #[.nilFunc] 51) = W := ⟨_, rfl⟩
          have hv14 := hux14
          have hbx14 : Below ux13.heap.size ux13 ux14 := by rw [← hux14]; exact (Below.refl _ _).alloc (Nat.le_refl _) _
          have N14 := Lib.hid (show Nil9 w5 ux14 ux13.heap.size by rw [← hux14]; exact Nil9.new Tx13.out.2.size)
          have zx14 := Lib.hid (show ux14.heap.size = ux13.heap.size + 1 by rw [← hux14]; exact size_new _ _)
          rw [hv14]
          clear hux14 hv14
          have Tx14 := Lib.hid (And.intro (Tx13.out.1.call hbx14) (Tx13.out.2.trans (hbx14.mono Tx13.out.2.size)))
          have C1_12_13_14 := Lib.hid (C1_12_13.out.under hbx14)
          have C13_14 := Lib.hid (C13.out.under hbx14)
          have N12_13_14 := Lib.hid (N12_13.out.call hbx14)
          refine hK.out _ _ (KS8.out _ Tx14.out) (fun hHeld14 => ?_)
          clear hK K hHeld13 hbx14
          try simp only [Act.put, List.getElem_toArray, List.getElem_cons_zero, List.getElem_cons_succ, List.setIfInBounds_toArray, List.set_cons_zero, List.set_cons_succ]
          refine wpAnyK_done (by kernel_rfl) ?_
          simp only [List.drop_succ_cons, List.drop_zero]
          have yx1 := zx1.out
          have yx12 := zx12.out
          have yx13 := zx13.out
          have yx14 := zx14.out
          have vx9 := N14.out.1
          have vx10 := N12_13_14.out.1
          have HF8 := Lib.hid (Clo2.end (w := w) C1_12_13_14.out C13_14.out (b9 := ux13.heap.size) (b10 := ux1.heap.size) (by omega) N14.out.2.1 N12_13_14.out.2.1 ⟨by omega, by omega, fun x hx hn => by have := r3lt x hx hn; omega⟩ ⟨by omega, by omega, fun x hx hn => by have := r3lt x hx hn; omega⟩ ⟨by omega, by omega, fun x hx hn => by have := r4lt x hx hn; omega⟩ ⟨by omega, by omega, fun x hx hn => by have := r4lt x hx hn; omega⟩)
          have HT8 := Lib.hid (T5.out.call ((Tx14.out.2.setCell (p := ⟨ux13.heap.size, 0, none⟩) (by show w5.heap.size ≤ ux13.heap.size; omega) (.func (.func 152) #[] #[.pointer (some ⟨Bx1 + 1, 0, none⟩), .pointer (some ⟨Bx1, 0, none⟩)])).setCell (p := ⟨ux1.heap.size, 0, none⟩) (by show w5.heap.size ≤ ux1.heap.size; omega) (.func (.func 152) #[] #[.pointer (some ⟨Bx13 + 1, 0, none⟩), .pointer (some ⟨Bx13, 0, none⟩)])))
          obtain ⟨g1, g2, g3⟩ := N14.out
          obtain ⟨g4, g5, g6⟩ := N12_13_14.out
          have gn : ¬ ux13.heap.size = ux1.heap.size := by omega
          have gn' : ¬ ux1.heap.size = ux13.heap.size := by omega
          clear yx1 yx12 yx13 yx14 vx9 vx10
          clear hHeld14
          go_wp2_with fail
          go_meet
          exact ⟨ux13.heap.size, ux1.heap.size, Bx1, Bx13, rfl, rfl, HT8, HF8⟩
        · go_simp
          obtain ⟨ux15, hux15⟩ : ∃ W, ux12.alloc (.cells #[.nilFunc] 51) = W := ⟨_, rfl⟩
          have hv15 := hux15
          have hbx15 : Below ux12.heap.size ux12 ux15 := by rw [← hux15]; exact (Below.refl _ _).alloc (Nat.le_refl _) _
          have N15 := Lib.hid (show Nil9 w5 ux15 ux12.heap.size by rw [← hux15]; exact Nil9.new Tx12.out.2.size)
          have zx15 := Lib.hid (show ux15.heap.size = ux12.heap.size + 1 by rw [← hux15]; exact size_new _ _)
          rw [hv15]
          clear hux15 hv15
          have Tx15 := Lib.hid (And.intro (Tx12.out.1.call hbx15) (Tx12.out.2.trans (hbx15.mono Tx12.out.2.size)))
          have C1_12_15 := Lib.hid (C1_12.out.under hbx15)
          have N12_15 := Lib.hid (N12.out.call hbx15)
          refine hK.out _ _ (KS8.out _ Tx15.out) (fun hHeld15 => ?_)
          clear hK K hHeld12 hbx15
          try simp only [Act.put, List.getElem_toArray, List.getElem_cons_zero, List.getElem_cons_succ, List.setIfInBounds_toArray, List.set_cons_zero, List.set_cons_succ]
          refine wpAnyK_step (i := 3) rfl (by kernel_rfl) (fun K hK => ?_)
          go_simp
          with_reducible refine (pvalues_p a4 n4 cap4 x2 r2 k2 GX.out.2 _ Tx15.out.1.r2).mono ?_
          rintro e ux16 ⟨Bx16, rfl, hbx16, hlx16, hmx16, hcx16⟩
          have Tx16 := Lib.hid (And.intro (Tx15.out.1.call hbx16) (Tx15.out.2.trans (hbx16.mono Tx15.out.2.size)))
          have zx16 := Lib.hid (And.intro hbx16.size (And.intro hlx16 hmx16))
          have C16 := Lib.hid hcx16
          clear hlx16 hmx16 hcx16
          have C1_12_15_16 := Lib.hid (C1_12_15.out.under hbx16)
          have N15_16 := Lib.hid (N15.out.call hbx16)
          have N12_15_16 := Lib.hid (N12_15.out.call hbx16)
          refine hK.out _ _ (KS8.out _ Tx16.out) (fun hHeld16 => ?_)
          clear hK K hHeld15 hbx16
          try simp only [Act.put, List.getElem_toArray, List.getElem_cons_zero, List.getElem_cons_succ, List.setIfInBounds_toArray, List.set_cons_zero, List.set_cons_succ]
          refine wpAnyK_done (by kernel_rfl) ?_
          simp only [List.drop_succ_cons, List.drop_zero]
          have yx1 := zx1.out
          have yx12 := zx12.out
          have yx15 := zx15.out
          have yx16 := zx16.out
          have vx9 := N15_16.out.1
          have vx10 := N12_15_16.out.1
          have HF8 := Lib.hid (Clo2.end (w := w) C1_12_15_16.out C16.out (b9 := ux12.heap.size) (b10 := ux1.heap.size) (by omega) N15_16.out.2.1 N12_15_16.out.2.1 ⟨by omega, by omega, fun x hx hn => by have := r3lt x hx hn; omega⟩ ⟨by omega, by omega, fun x hx hn => by have := r3lt x hx hn; omega⟩ ⟨by omega, by omega, fun x hx hn => by have := r4lt x hx hn; omega⟩ ⟨by omega, by omega, fun x hx hn => by have := r4lt x hx hn; omega⟩)
          have HT8 := Lib.hid (T5.out.call ((Tx16.out.2.setCell (p := ⟨ux12.heap.size, 0, none⟩) (by show w5.heap.size ≤ ux12.heap.size; omega) (.func (.func 152) #[] #[.pointer (some ⟨Bx1 + 1, 0, none⟩), .pointer (some ⟨Bx1, 0, none⟩)])).setCell (p := ⟨ux1.heap.size, 0, none⟩) (by show w5.heap.size ≤ ux1.heap.size; omega) (.func (.func 152) #[] #[.pointer (some ⟨Bx16 + 1, 0, none⟩), .pointer (some ⟨Bx16, 0, none⟩)])))
          obtain ⟨g1, g2, g3⟩ := N15_16.out
          obtain ⟨g4, g5, g6⟩ := N12_15_16.out
          have gn : ¬ ux12.heap.size = ux1.heap.size := by omega
          have gn' : ¬ ux1.heap.size = ux12.heap.size := by omega
          clear yx1 yx12 yx15 yx16 vx9 vx10
          clear hHeld16
          go_wp2_with fail
          go_meet
          exact ⟨ux12.heap.size, ux1.heap.size, Bx1, Bx16, rfl, rfl, HT8, HF8⟩
    · go_simp
      obtain ⟨ux17, hv17⟩ : ∃ W, (w5.alloc (.cells #[.nilFunc] 51)).drew = W := ⟨_, rfl⟩
      have hux17 : w5.drew.alloc (.cells #[.nilFunc] 51) = ux17 := hv17
      have hbx17 : Below w5.drew.heap.size w5.drew ux17 := by rw [← hux17]; exact (Below.refl _ _).alloc (Nat.le_refl _) _
      have N17 := Lib.hid (show Nil9 w5 ux17 w5.heap.size by rw [← hux17]; exact Nil9.new T0'.out.2.size)
      have zx17 := Lib.hid (show ux17.heap.size = w5.heap.size + 1 by rw [← hux17]; exact size_new _ _)
      rw [hv17]
      clear hux17 hv17
      have Tx17 := Lib.hid (And.intro (T0'.out.1.call hbx17) (T0'.out.2.trans (hbx17.mono T0'.out.2.size)))
      refine hK.out _ _ (KS8.out _ Tx17.out) (fun hHeld17 => ?_)
      clear hK K hHeld0 hbx17
      try simp only [Act.put, List.getElem_toArray, List.getElem_cons_zero, List.getElem_cons_succ, List.setIfInBounds_toArray, List.set_cons_zero, List.set_cons_succ]
      refine wpAnyK_two (i := 1) (j := 5) rfl rfl (by kernel_rfl) (fun K hK => ?_) (fun K hK => ?_)
      · go_simp
        with_reducible refine (pvalues_p a3 n3 cap3 x1 r1 k1 GX.out.1 _ Tx17.out.1.r1).mono ?_
        rintro e ux18 ⟨Bx18, rfl, hbx18, hlx18, hmx18, hcx18⟩
        have Tx18 := Lib.hid (And.intro (Tx17.out.1.call hbx18) (Tx17.out.2.trans (hbx18.mono Tx17.out.2.size)))
        have zx18 := Lib.hid (And.intro hbx18.size (And.intro hlx18 hmx18))
        have C18 := Lib.hid hcx18
        clear hlx18 hmx18 hcx18
        have N17_18 := Lib.hid (N17.out.call hbx18)
        refine hK.out _ _ (KS8.out _ Tx18.out) (fun hHeld18 => ?_)
        clear hK K hHeld17 hbx18
        try simp only [Act.put, List.getElem_toArray, List.getElem_cons_zero, List.getElem_cons_succ, List.setIfInBounds_toArray, List.set_cons_zero, List.set_cons_succ]
        refine wpAnyK_two (i := 3) (j := 5) rfl rfl (by kernel_rfl) (fun K hK => ?_) (fun K hK => ?_)
        · go_simp
          with_reducible refine (pvalues_p a4 n4 cap4 x2 r2 k2 GX.out.2 _ Tx18.out.1.r2).mono ?_
          rintro e ux19 ⟨Bx19, rfl, hbx19, hlx19, hmx19, hcx19⟩
          have Tx19 := Lib.hid (And.intro (Tx18.out.1.call hbx19) (Tx18.out.2.trans (hbx19.mono Tx18.out.2.size)))
          have zx19 := Lib.hid (And.intro hbx19.size (And.intro hlx19 hmx19))
          have C19 := Lib.hid hcx19
          clear hlx19 hmx19 hcx19
          have C18_19 := Lib.hid (C18.out.under hbx19)
          have N17_18_19 := Lib.hid (N17_18.out.call hbx19)
          refine hK.out _ _ (KS8.out _ Tx19.out) (fun hHeld19 => ?_)
          clear hK K hHeld18 hbx19
          try simp only [Act.put, List.getElem_toArray, List.getElem_cons_zero, List.getElem_cons_succ, List.setIfInBounds_toArray, List.set_cons_zero, List.set_cons_succ]
          refine wpAnyK_step (i := 5) rfl (by kernel_rfl) (fun K hK => ?_)
          go_simp
          obtain ⟨ux20, hux20⟩ : ∃ W, ux19.alloc (.cells #[.nilFunc] 51) = W := ⟨_, rfl⟩
          have hv20 := hux20
          have hbx20 : Below ux19.heap.size ux19 ux20 := by rw [← hux20]; exact (Below.refl _ _).alloc (Nat.le_refl _) _
          have N20 := Lib.hid (show Nil9 w5 ux20 ux19.heap.size by rw [← hux20]; exact Nil9.new Tx19.out.2.size)
          have zx20 := Lib.hid (show ux20.heap.size = ux19.heap.size + 1 by rw [← hux20]; exact size_new _ _)
          rw [hv20]
          clear hux20 hv20
          have Tx20 := Lib.hid (And.intro (Tx19.out.1.call hbx20) (Tx19.out.2.trans (hbx20.mono Tx19.out.2.size)))
          have C18_19_20 := Lib.hid (C18_19.out.under hbx20)
          have C19_20 := Lib.hid (C19.out.under hbx20)
          have N17_18_19_20 := Lib.hid (N17_18_19.out.call hbx20)
          refine hK.out _ _ (KS8.out _ Tx20.out) (fun hHeld20 => ?_)
          clear hK K hHeld19 hbx20
          try simp only [Act.put, List.getElem_toArray, List.getElem_cons_zero, List.getElem_cons_succ, List.setIfInBounds_toArray, List.set_cons_zero, List.set_cons_succ]
          refine wpAnyK_done (by kernel_rfl) ?_
          simp only [List.drop_succ_cons, List.drop_zero]
          have yx17 := zx17.out
          have yx18 := zx18.out
          have yx19 := zx19.out
          have yx20 := zx20.out
          have vx9 := N17_18_19_20.out.1
          have vx10 := N20.out.1
          have HF8 := Lib.hid (Clo2.end (w := w) C18_19_20.out C19_20.out (b9 := w5.heap.size) (b10 := ux19.heap.size) (by omega) N17_18_19_20.out.2.1 N20.out.2.1 ⟨by omega, by omega, fun x hx hn => by have := r3lt x hx hn; omega⟩ ⟨by omega, by omega, fun x hx hn => by have := r3lt x hx hn; omega⟩ ⟨by omega, by omega, fun x hx hn => by have := r4lt x hx hn; omega⟩ ⟨by omega, by omega, fun x hx hn => by have := r4lt x hx hn; omega⟩)
          have HT8 := Lib.hid (T5.out.call ((Tx20.out.2.setCell (p := ⟨w5.heap.size, 0, none⟩) (by show w5.heap.size ≤ w5.heap.size; omega) (.func (.func 152) #[] #[.pointer (some ⟨Bx18 + 1, 0, none⟩), .pointer (some ⟨Bx18, 0, none⟩)])).setCell (p := ⟨ux19.heap.size, 0, none⟩) (by show w5.heap.size ≤ ux19.heap.size; omega) (.func (.func 152) #[] #[.pointer (some ⟨Bx19 + 1, 0, none⟩), .pointer (some ⟨Bx19, 0, none⟩)])))
          obtain ⟨g1, g2, g3⟩ := N17_18_19_20.out
          obtain ⟨g4, g5, g6⟩ := N20.out
          have gn : ¬ w5.heap.size = ux19.heap.size := by omega
          have gn' : ¬ ux19.heap.size = w5.heap.size := by omega
          clear yx17 yx18 yx19 yx20 vx9 vx10
          clear hHeld20
          go_wp2_with fail
          go_meet
          exact ⟨w5.heap.size, ux19.heap.size, Bx18, Bx19, rfl, rfl, HT8, HF8⟩
        · go_simp
          obtain ⟨ux21, hux21⟩ : ∃ W, ux18.alloc (.cells #[.nilFunc] 51) = W := ⟨_, rfl⟩
          have hv21 := hux21
          have hbx21 : Below ux18.heap.size ux18 ux21 := by rw [← hux21]; exact (Below.refl _ _).alloc (Nat.le_refl _) _
          have N21 := Lib.hid (show Nil9 w5 ux21 ux18.heap.size by rw [← hux21]; exact Nil9.new Tx18.out.2.size)
          have zx21 := Lib.hid (show ux21.heap.size = ux18.heap.size + 1 by rw [← hux21]; exact size_new _ _)
          rw [hv21]
          clear hux21 hv21
          have Tx21 := Lib.hid (And.intro (Tx18.out.1.call hbx21) (Tx18.out.2.trans (hbx21.mono Tx18.out.2.size)))
          have C18_21 := Lib.hid (C18.out.under hbx21)
          have N17_18_21 := Lib.hid (N17_18.out.call hbx21)
          refine hK.out _ _ (KS8.out _ Tx21.out) (fun hHeld21 => ?_)
          clear hK K hHeld18 hbx21
          try simp only [Act.put, List.getElem_toArray, List.getElem_cons_zero, List.getElem_cons_succ, List.setIfInBounds_toArray, List.set_cons_zero, List.set_cons_succ]
          refine wpAnyK_step (i := 3) rfl (by kernel_rfl) (fun K hK => ?_)
          go_simp
          with_reducible refine (pvalues_p a4 n4 cap4 x2 r2 k2 GX.out.2 _ Tx21.out.1.r2).mono ?_
          rintro e ux22 ⟨Bx22, rfl, hbx22, hlx22, hmx22, hcx22⟩
          have Tx22 := Lib.hid (And.intro (Tx21.out.1.call hbx22) (Tx21.out.2.trans (hbx22.mono Tx21.out.2.size)))
          have zx22 := Lib.hid (And.intro hbx22.size (And.intro hlx22 hmx22))
          have C22 := Lib.hid hcx22
          clear hlx22 hmx22 hcx22
          have C18_21_22 := Lib.hid (C18_21.out.under hbx22)
          have N17_18_21_22 := Lib.hid (N17_18_21.out.call hbx22)
          have N21_22 := Lib.hid (N21.out.call hbx22)
          refine hK.out _ _ (KS8.out _ Tx22.out) (fun hHeld22 => ?_)
          clear hK K hHeld21 hbx22
          try simp only [Act.put, List.getElem_toArray, List.getElem_cons_zero, List.getElem_cons_succ, List.setIfInBounds_toArray, List.set_cons_zero, List.set_cons_succ]
          refine wpAnyK_done (by kernel_rfl) ?_
          simp only [List.drop_succ_cons, List.drop_zero]
          have yx17 := zx17.out
          have yx18 := zx18.out
          have yx21 := zx21.out
          have yx22 := zx22.out
          have vx9 := N17_18_21_22.out.1
          have vx10 := N21_22.out.1
          have HF8 := Lib.hid (Clo2.end (w := w) C18_21_22.out C22.out (b9 := w5.heap.size) (b10 := ux18.heap.size) (by omega) N17_18_21_22.out.2.1 N21_22.out.2.1 ⟨by omega, by omega, fun x hx hn => by have := r3lt x hx hn; omega⟩ ⟨by omega, by omega, fun x hx hn => by have := r3lt x hx hn; omega⟩ ⟨by omega, by omega, fun x hx hn => by have := r4lt x hx hn; omega⟩ ⟨by omega, by omega, fun x hx hn => by have := r4lt x hx hn; omega⟩)
          have HT8 := Lib.hid (T5.out.call ((Tx22.out.2.setCell (p := ⟨w5.heap.size, 0, none⟩) (by show w5.heap.size ≤ w5.heap.size; omega) (.func (.func 152) #[] #[.pointer (some ⟨Bx18 + 1, 0, none⟩), .pointer (some ⟨Bx18, 0, none⟩)])).setCell (p := ⟨ux18.heap.size, 0, none⟩) (by show w5.heap.size ≤ ux18.heap.size; omega) (.func (.func 152) #[] #[.pointer (some ⟨Bx22 + 1, 0, none⟩), .pointer (some ⟨Bx22, 0, none⟩)])))
          obtain ⟨g1, g2, g3⟩ := N17_18_21_22.out
          obtain ⟨g4, g5, g6⟩ := N21_22.out
          have gn : ¬ w5.heap.size = ux18.heap.size := by omega
          have gn' : ¬ ux18.heap.size = w5.heap.size := by omega
          clear yx17 yx18 yx21 yx22 vx9 vx10
          clear hHeld22
          go_wp2_with fail
          go_meet
          exact ⟨w5.heap.size, ux18.heap.size, Bx18, Bx22, rfl, rfl, HT8, HF8⟩
      · go_simp
        obtain ⟨ux23, hux23⟩ : ∃ W, ux17.alloc (.cells #[.nilFunc] 51) = W := ⟨_, rfl⟩
        have hv23 := hux23
        have hbx23 : Below ux17.heap.size ux17 ux23 := by rw [← hux23]; exact (Below.refl _ _).alloc (Nat.le_refl _) _
        have N23 := Lib.hid (show Nil9 w5 ux23 ux17.heap.size by rw [← hux23]; exact Nil9.new Tx17.out.2.size)
        have zx23 := Lib.hid (show ux23.heap.size = ux17.heap.size + 1 by rw [← hux23]; exact size_new _ _)
        rw [hv23]
        clear hux23 hv23
        have Tx23 := Lib.hid (And.intro (Tx17.out.1.call hbx23) (Tx17.out.2.trans (hbx23.mono Tx17.out.2.size)))
        have N17_23 := Lib.hid (N17.out.call hbx23)
        refine hK.out _ _ (KS8.out _ Tx23.out) (fun hHeld23 => ?_)
        clear hK K hHeld17 hbx23
        try simp only [Act.put, List.getElem_toArray, List.getElem_cons_zero, List.getElem_cons_succ, List.setIfInBounds_toArray, List.set_cons_zero, List.set_cons_succ]
        refine wpAnyK_step (i := 1) rfl (by kernel_rfl) (fun K hK => ?_)
        go_simp
        with_reducible refine (pvalues_p a3 n3 cap3 x1 r1 k1 GX.out.1 _ Tx23.out.1.r1).mono ?_
        rintro e ux24 ⟨Bx24, rfl, hbx24, hlx24, hmx24, hcx24⟩
        have Tx24 := Lib.hid (And.intro (Tx23.out.1.call hbx24) (Tx23.out.2.trans (hbx24.mono Tx23.out.2.size)))
        have zx24 := Lib.hid (And.intro hbx24.size (And.intro hlx24 hmx24))
        have C24 := Lib.hid hcx24
        clear hlx24 hmx24 hcx24
        have N17_23_24 := Lib.hid (N17_23.out.call hbx24)
        have N23_24 := Lib.hid (N23.out.call hbx24)
        refine hK.out _ _ (KS8.out _ Tx24.out) (fun hHeld24 => ?_)
        clear hK K hHeld23 hbx24
        try simp only [Act.put, List.getElem_toArray, List.getElem_cons_zero, List.getElem_cons_succ, List.setIfInBounds_toArray, List.set_cons_zero, List.set_cons_succ]
        refine wpAnyK_step (i := 3) rfl (by kernel_rfl) (fun K hK => ?_)
        go_simp
        with_reducible refine (pvalues_p a4 n4 cap4 x2 r2 k2 GX.out.2 _ Tx24.out.1.r2).mono ?_
        rintro e ux25 ⟨Bx25, rfl, hbx25, hlx25, hmx25, hcx25⟩
        have Tx25 := Lib.hid (And.intro (Tx24.out.1.call hbx25) (Tx24.out.2.trans (hbx25.mono Tx24.out.2.size)))
        have zx25 := Lib.hid (And.intro hbx25.size (And.intro hlx25 hmx25))
        have C25 := Lib.hid hcx25
        clear hlx25 hmx25 hcx25
        have C24_25 := Lib.hid (C24.out.under hbx25)
        have N17_23_24_25 := Lib.hid (N17_23_24.out.call hbx25)
        have N23_24_25 := Lib.hid (N23_24.out.call hbx25)
        refine hK.out _ _ (KS8.out _ Tx25.out) (fun hHeld25 => ?_)
        clear hK K hHeld24 hbx25
        try simp only [Act.put, List.getElem_toArray, List.getElem_cons_zero, List.getElem_cons_succ, List.setIfInBounds_toArray, List.set_cons_zero, List.set_cons_succ]
        refine wpAnyK_done (by kernel_rfl) ?_
        simp only [List.drop_succ_cons, List.drop_zero]
        have yx17 := zx17.out
        have yx23 := zx23.out
        have yx24 := zx24.out
        have yx25 := zx25.out
        have vx9 := N17_23_24_25.out.1
        have vx10 := N23_24_25.out.1
        have HF8 := Lib.hid (Clo2.end (w := w) C24_25.out C25.out (b9 := w5.heap.size) (b10 := ux17.heap.size) (by omega) N17_23_24_25.out.2.1 N23_24_25.out.2.1 ⟨by omega, by omega, fun x hx hn => by have := r3lt x hx hn; omega⟩ ⟨by omega, by omega, fun x hx hn => by have := r3lt x hx hn; omega⟩ ⟨by omega, by omega, fun x hx hn => by have := r4lt x hx hn; omega⟩ ⟨by omega, by omega, fun x hx hn => by have := r4lt x hx hn; omega⟩)
        have HT8 := Lib.hid (T5.out.call ((Tx25.out.2.setCell (p := ⟨w5.heap.size, 0, none⟩) (by show w5.heap.size ≤ w5.heap.size; omega) (.func (.func 152) #[] #[.pointer (some ⟨Bx24 + 1, 0, none⟩), .pointer (some ⟨Bx24, 0, none⟩)])).setCell (p := ⟨ux17.heap.size, 0, none⟩) (by show w5.heap.size ≤ ux17.heap.size; omega) (.func (.func 152) #[] #[.pointer (some ⟨Bx25 + 1, 0, none⟩), .pointer (some ⟨Bx25, 0, none⟩)])))
        obtain ⟨g1, g2, g3⟩ := N17_23_24_25.out
        obtain ⟨g4, g5, g6⟩ := N23_24_25.out
        have gn : ¬ w5.heap.size = ux17.heap.size := by omega
        have gn' : ¬ ux17.heap.size = w5.heap.size := by omega
        clear yx17 yx23 yx24 yx25 vx9 vx10
        clear hHeld25
        go_wp2_with fail
        go_meet
        exact ⟨w5.heap.size, ux17.heap.size, Bx24, Bx25, rfl, rfl, HT8, HF8⟩
    · go_simp
      obtain ⟨ux26, hv26⟩ : ∃ W, (w5.alloc (.cells #[.nilFunc] 51)).drew = W := ⟨_, rfl⟩
      have hux26 : w5.drew.alloc (.cells #[.nilFunc] 51) = ux26 := hv26
      have hbx26 : Below w5.drew.heap.size w5.drew ux26 := by rw [← hux26]; exact (Below.refl _ _).alloc (Nat.le_refl _) _
      have N26 := Lib.hid (show Nil9 w5 ux26 w5.heap.size by rw [← hux26]; exact Nil9.new T0'.out.2.size)
      have zx26 := Lib.hid (show ux26.heap.size = w5.heap.size + 1 by rw [← hux26]; exact size_new _ _)
      rw [hv26]
      clear hux26 hv26
      have Tx26 := Lib.hid (And.intro (T0'.out.1.call hbx26) (T0'.out.2.trans (hbx26.mono T0'.out.2.size)))
      refine hK.out _ _ (KS8.out _ Tx26.out) (fun hHeld26 => ?_)
      clear hK K hHeld0 hbx26
      try simp only [Act.put, List.getElem_toArray, List.getElem_cons_zero, List.getElem_cons_succ, List.setIfInBounds_toArray, List.set_cons_zero, List.set_cons_succ]
      refine wpAnyK_two (i := 1) (j := 4) rfl rfl (by kernel_rfl) (fun K hK => ?_) (fun K hK => ?_)
      · go_simp
        with_reducible refine (pvalues_p a3 n3 cap3 x1 r1 k1 GX.out.1 _ Tx26.out.1.r1).mono ?_
        rintro e ux27 ⟨Bx27, rfl, hbx27, hlx27, hmx27, hcx27⟩
        have Tx27 := Lib.hid (And.intro (Tx26.out.1.call hbx27) (Tx26.out.2.trans (hbx27.mono Tx26.out.2.size)))
        have zx27 := Lib.hid (And.intro hbx27.size (And.intro hlx27 hmx27))
        have C27 := Lib.hid hcx27
        clear hlx27 hmx27 hcx27
        have N26_27 := Lib.hid (N26.out.call hbx27)
        refine hK.out _ _ (KS8.out _ Tx27.out) (fun hHeld27 => ?_)
        clear hK K hHeld26 hbx27
        try simp only [Act.put, List.getElem_toArray, List.getElem_cons_zero, List.getElem_cons_succ, List.setIfInBounds_toArray, List.set_cons_zero, List.set_cons_succ]
        refine wpAnyK_two (i := 3) (j := 4) rfl rfl (by kernel_rfl) (fun K hK => ?_) (fun K hK => ?_)
        · go_simp
          with_reducible refine (pvalues_p a4 n4 cap4 x2 r2 k2 GX.out.2 _ Tx27.out.1.r2).mono ?_
          rintro e ux28 ⟨Bx28, rfl, hbx28, hlx28, hmx28, hcx28⟩
          have Tx28 := Lib.hid (And.intro (Tx27.out.1.call hbx28) (Tx27.out.2.trans (hbx28.mono Tx27.out.2.size)))
          have zx28 := Lib.hid (And.intro hbx28.size (And.intro hlx28 hmx28))
          have C28 := Lib.hid hcx28
          clear hlx28 hmx28 hcx28
          have C27_28 := Lib.hid (C27.out.under hbx28)
          have N26_27_28 := Lib.hid (N26_27.out.call hbx28)
          refine hK.out _ _ (KS8.out _ Tx28.out) (fun hHeld28 => ?_)
          clear hK K hHeld27 hbx28
          try simp only [Act.put, List.getElem_toArray, List.getElem_cons_zero, List.getElem_cons_succ, List.setIfInBounds_toArray, List.set_cons_zero, List.set_cons_succ]
          refine wpAnyK_step (i := 4) rfl (by kernel_rfl) (fun K hK => ?_)
          go_simp
          obtain ⟨ux29, hux29⟩ : ∃ W, ux28.alloc (.cells #[.nilFunc] 51) = W := ⟨_, rfl⟩
          have hv29 := hux29
          have hbx29 : Below ux28.heap.size ux28 ux29 := by rw [← hux29]; exact (Below.refl _ _).alloc (Nat.le_refl _) _
          have N29 := Lib.hid (show Nil9 w5 ux29 ux28.heap.size by rw [← hux29]; exact Nil9.new Tx28.out.2.size)
          have zx29 := Lib.hid (show ux29.heap.size = ux28.heap.size + 1 by rw [← hux29]; exact size_new _ _)
          rw [hv29]
          clear hux29 hv29
          have Tx29 := Lib.hid (And.intro (Tx28.out.1.call hbx29) (Tx28.out.2.trans (hbx29.mono Tx28.out.2.size)))
          have C27_28_29 := Lib.hid (C27_28.out.under hbx29)
          have C28_29 := Lib.hid (C28.out.under hbx29)
          have N26_27_28_29 := Lib.hid (N26_27_28.out.call hbx29)
          refine hK.out _ _ (KS8.out _ Tx29.out) (fun hHeld29 => ?_)
          clear hK K hHeld28 hbx29
          try simp only [Act.put, List.getElem_toArray, List.getElem_cons_zero, List.getElem_cons_succ, List.setIfInBounds_toArray, List.set_cons_zero, List.set_cons_succ]
          refine wpAnyK_done (by kernel_rfl) ?_
          simp only [List.drop_succ_cons, List.drop_zero]
          have yx26 := zx26.out
          have yx27 := zx27.out
          have yx28 := zx28.out
          have yx29 := zx29.out
          have vx9 := N29.out.1
          have vx10 := N26_27_28_29.out.1
          have HF8 := Lib.hid (Clo2.end (w := w) C27_28_29.out C28_29.out (b9 := ux28.heap.size) (b10 := w5.heap.size) (by omega) N29.out.2.1 N26_27_28_29.out.2.1 ⟨by omega, by omega, fun x hx hn => by have := r3lt x hx hn; omega⟩ ⟨by omega, by omega, fun x hx hn => by have := r3lt x hx hn; omega⟩ ⟨by omega, by omega, fun x hx hn => by have := r4lt x hx hn; omega⟩ ⟨by omega, by omega, fun x hx hn => by have := r4lt x hx hn; omega⟩)
          have HT8 := Lib.hid (T5.out.call ((Tx29.out.2.setCell (p := ⟨ux28.heap.size, 0, none⟩) (by show w5.heap.size ≤ ux28.heap.size; omega) (.func (.func 152) #[] #[.pointer (some ⟨Bx27 + 1, 0, none⟩), .pointer (some ⟨Bx27, 0, none⟩)])).setCell (p := ⟨w5.heap.size, 0, none⟩) (by show w5.heap.size ≤ w5.heap.size; omega) (.func (.func 152) #[] #[.pointer (some ⟨Bx28 + 1, 0, none⟩), .pointer (some ⟨Bx28, 0, none⟩)])))
          obtain ⟨g1, g2, g3⟩ := N29.out
          obtain ⟨g4, g5, g6⟩ := N26_27_28_29.out
          have gn : ¬ ux28.heap.size = w5.heap.size := by omega
          have gn' : ¬ w5.heap.size = ux28.heap.size := by omega
          clear yx26 yx27 yx28 yx29 vx9 vx10
          clear hHeld29
          go_wp2_with fail
          go_meet
          exact ⟨ux28.heap.size, w5.heap.size, Bx27, Bx28, rfl, rfl, HT8, HF8⟩
        · go_simp
          obtain ⟨ux30, hux30⟩ : ∃ W, ux27.alloc (.cells #[.nilFunc] 51) = W := ⟨_, rfl⟩
          have hv30 := hux30
          have hbx30 : Below ux27.heap.size ux27 ux30 := by rw [← hux30]; exact (Below.refl _ _).alloc (Nat.le_refl _) _
          have N30 := Lib.hid (show Nil9 w5 ux30 ux27.heap.size by rw [← hux30]; exact Nil9.new Tx27.out.2.size)
          have zx30 := Lib.hid (show ux30.heap.size = ux27.heap.size + 1 by rw [← hux30]; exact size_new _ _)
          rw [hv30]
          clear hux30 hv30
          have Tx30 := Lib.hid (And.intro (Tx27.out.1.call hbx30) (Tx27.out.2.trans (hbx30.mono Tx27.out.2.size)))
          have C27_30 := Lib.hid (C27.out.under hbx30)
          have N26_27_30 := Lib.hid (N26_27.out.call hbx30)
          refine hK.out _ _ (KS8.out _ Tx30.out) (fun hHeld30 => ?_)
          clear hK K hHeld27 hbx30
          try simp only [Act.put, List.getElem_toArray, List.getElem_cons_zero, List.getElem_cons_succ, List.setIfInBounds_toArray, List.set_cons_zero, List.set_cons_succ]
          refine wpAnyK_step (i := 3) rfl (by kernel_rfl) (fun K hK => ?_)
          go_simp
          with_reducible refine (pvalues_p a4 n4 cap4 x2 r2 k2 GX.out.2 _ Tx30.out.1.r2).mono ?_
          rintro e ux31 ⟨Bx31, rfl, hbx31, hlx31, hmx31, hcx31⟩
          have Tx31 := Lib.hid (And.intro (Tx30.out.1.call hbx31) (Tx30.out.2.trans (hbx31.mono Tx30.out.2.size)))
          have zx31 := Lib.hid (And.intro hbx31.size (And.intro hlx31 hmx31))
          have C31 := Lib.hid hcx31
          clear hlx31 hmx31 hcx31
          have C27_30_31 := Lib.hid (C27_30.out.under hbx31)
          have N30_31 := Lib.hid (N30.out.call hbx31)
          have N26_27_30_31 := Lib.hid (N26_27_30.out.call hbx31)
          refine hK.out _ _ (KS8.out _ Tx31.out) (fun hHeld31 => ?_)
          clear hK K hHeld30 hbx31
          try simp only [Act.put, List.getElem_toArray, List.getElem_cons_zero, List.getElem_cons_succ, List.setIfInBounds_toArray, List.set_cons_zero, List.set_cons_succ]
          refine wpAnyK_done (by kernel_rfl) ?_
          simp only [List.drop_succ_cons, List.drop_zero]
          have yx26 := zx26.out
          have yx27 := zx27.out
          have yx30 := zx30.out
          have yx31 := zx31.out
          have vx9 := N30_31.out.1
          have vx10 := N26_27_30_31.out.1
          have HF8 := Lib.hid (Clo2.end (w := w) C27_30_31.out C31.out (b9 := ux27.heap.size) (b10 := w5.heap.size) (by omega) N30_31.out.2.1 N26_27_30_31.out.2.1 ⟨by omega, by omega, fun x hx hn => by have := r3lt x hx hn; omega⟩ ⟨by omega, by omega, fun x hx hn => by have := r3lt x hx hn; omega⟩ ⟨by omega, by omega, fun x hx hn => by have := r4lt x hx hn; omega⟩ ⟨by omega, by omega, fun x hx hn => by have := r4lt x hx hn; omega⟩)
          have HT8 := Lib.hid (T5.out.call ((Tx31.out.2.setCell (p := ⟨ux27.heap.size, 0, none⟩) (by show w5.heap.size ≤ ux27.heap.size; omega) (.func (.func 152) #[] #[.pointer (some ⟨Bx27 + 1, 0, none⟩), .pointer (some ⟨Bx27, 0, none⟩)])).setCell (p := ⟨w5.heap.size, 0, none⟩) (by show w5.heap.size ≤ w5.heap.size; omega) (.func (.func 152) #[] #[.pointer (some ⟨Bx31 + 1, 0, none⟩), .pointer (some ⟨Bx31, 0, none⟩)])))
          obtain ⟨g1, g2, g3⟩ := N30_31.out
          obtain ⟨g4, g5, g6⟩ := N26_27_30_31.out
          have gn : ¬ ux27.heap.size = w5.heap.size := by omega
          have gn' : ¬ w5.heap.size = ux27.heap.size := by omega
          clear yx26 yx27 yx30 yx31 vx9 vx10
          clear hHeld31
          go_wp2_with fail
          go_meet
          exact ⟨ux27.heap.size, w5.heap.size, Bx27, Bx31, rfl, rfl, HT8, HF8⟩
      · go_simp
        obtain ⟨ux32, hux32⟩ : ∃ W, ux26.alloc (.cells #[.nilFunc] 51) = W := ⟨_, rfl⟩
        have hv32 := hux32
        have hbx32 : Below ux26.heap.size ux26 ux32 := by rw [← hux32]; exact (Below.refl _ _).alloc (Nat.le_refl _) _
        have N32 := Lib.hid (show Nil9 w5 ux32 ux26.heap.size by rw [← hux32]; exact Nil9.new Tx26.out.2.size)
        have zx32 := Lib.hid (show ux32.heap.size = ux26.heap.size + 1 by rw [← hux32]; exact size_new _ _)
        rw [hv32]
        clear hux32 hv32
        have Tx32 := Lib.hid (And.intro (Tx26.out.1.call hbx32) (Tx26.out.2.trans (hbx32.mono Tx26.out.2.size)))
        have N26_32 := Lib.hid (N26.out.call hbx32)
        refine hK.out _ _ (KS8.out _ Tx32.out) (fun hHeld32 => ?_)
        clear hK K hHeld26 hbx32
        try simp only [Act.put, List.getElem_toArray, List.getElem_cons_zero, List.getElem_cons_succ, List.setIfInBounds_toArray, List.set_cons_zero, List.set_cons_succ]
        refine wpAnyK_step (i := 1) rfl (by kernel_rfl) (fun K hK => ?_)
        go_simp
        with_reducible refine (pvalues_p a3 n3 cap3 x1 r1 k1 GX.out.1 _ Tx32.out.1.r1).mono ?_
        rintro e ux33 ⟨Bx33, rfl, hbx33, hlx33, hmx33, hcx33⟩
        have Tx33 := Lib.hid (And.intro (Tx32.out.1.call hbx33) (Tx32.out.2.trans (hbx33.mono Tx32.out.2.size)))
        have zx33 := Lib.hid (And.intro hbx33.size (And.intro hlx33 hmx33))
        have C33 := Lib.hid hcx33
        clear hlx33 hmx33 hcx33
        have N32_33 := Lib.hid (N32.out.call hbx33)
        have N26_32_33 := Lib.hid (N26_32.out.call hbx33)
        refine hK.out _ _ (KS8.out _ Tx33.out) (fun hHeld33 => ?_)
        clear hK K hHeld32 hbx33
        try simp only [Act.put, List.getElem_toArray, List.getElem_cons_zero, List.getElem_cons_succ, List.setIfInBounds_toArray, List.set_cons_zero, List.set_cons_succ]
        refine wpAnyK_step (i := 3) rfl (by kernel_rfl) (fun K hK => ?_)
        go_simp
        with_reducible refine (pvalues_p a4 n4 cap4 x2 r2 k2 GX.out.2 _ Tx33.out.1.r2).mono ?_
        rintro e ux34 ⟨Bx34, rfl, hbx34, hlx34, hmx34, hcx34⟩
        have Tx34 := Lib.hid (And.intro (Tx33.out.1.call hbx34) (Tx33.out.2.trans (hbx34.mono Tx33.out.2.size)))
        have zx34 := Lib.hid (And.intro hbx34.size (And.intro hlx34 hmx34))
        have C34 := Lib.hid hcx34
        clear hlx34 hmx34 hcx34
        have C33_34 := Lib.hid (C33.out.under hbx34)
        have N32_33_34 := Lib.hid (N32_33.out.call hbx34)
        have N26_32_33_34 := Lib.hid (N26_32_33.out.call hbx34)
        refine hK.out _ _ (KS8.out _ Tx34.out) (fun hHeld34 => ?_)
        clear hK K hHeld33 hbx34
        try simp only [Act.put, List.getElem_toArray, List.getElem_cons_zero, List.getElem_cons_succ, List.setIfInBounds_toArray, List.set_cons_zero, List.set_cons_succ]
        refine wpAnyK_done (by kernel_rfl) ?_
        simp only [List.drop_succ_cons, List.drop_zero]
        have yx26 := zx26.out
        have yx32 := zx32.out
        have yx33 := zx33.out
        have yx34 := zx34.out
        have vx9 := N32_33_34.out.1
        have vx10 := N26_32_33_34.out.1
        have HF8 := Lib.hid (Clo2.end (w := w) C33_34.out C34.out (b9 := ux26.heap.size) (b10 := w5.heap.size) (by omega) N32_33_34.out.2.1 N26_32_33_34.out.2.1 ⟨by omega, by omega, fun x hx hn => by have := r3lt x hx hn; omega⟩ ⟨by omega, by omega, fun x hx hn => by have := r3lt x hx hn; omega⟩ ⟨by omega, by omega, fun x hx hn => by have := r4lt x hx hn; omega⟩ ⟨by omega, by omega, fun x hx hn => by have := r4lt x hx hn; omega⟩)
        have HT8 := Lib.hid (T5.out.call ((Tx34.out.2.setCell (p := ⟨ux26.heap.size, 0, none⟩) (by show w5.heap.size ≤ ux26.heap.size; omega) (.func (.func 152) #[] #[.pointer (some ⟨Bx33 + 1, 0, none⟩), .pointer (some ⟨Bx33, 0, none⟩)])).setCell (p := ⟨w5.heap.size, 0, none⟩) (by show w5.heap.size ≤ w5.heap.size; omega) (.func (.func 152) #[] #[.pointer (some ⟨Bx34 + 1, 0, none⟩), .pointer (some ⟨Bx34, 0, none⟩)])))
        obtain ⟨g1, g2, g3⟩ := N32_33_34.out
        obtain ⟨g4, g5, g6⟩ := N26_32_33_34.out
        have gn : ¬ ux26.heap.size = w5.heap.size := by omega
        have gn' : ¬ w5.heap.size = ux26.heap.size := by omega
        clear yx26 yx32 yx33 yx34 vx9 vx10
        clear hHeld34
        go_wp2_with fail
        go_meet
        exact ⟨ux26.heap.size, w5.heap.size, Bx33, Bx34, rfl, rfl, HT8, HF8⟩
  case rest =>
    obtain ⟨b9, b10, B1, B2, rfl, rfl, HT, HC⟩ := hcut
    obtain ⟨w6, rfl⟩ : ∃ u : World, u = wc := ⟨_, rfl⟩
    clear c0 c1 c2 f0 f1 f2 d0' d1' d2' g0' g1' g2' q0 q1 q2 q3 q4 q5 q6 q7 lw hn2
    obtain ⟨GA, hGA⟩ : ∃ GA, growI x1 r1 k1 L = GA := ⟨_, rfl⟩
    obtain ⟨GB, hGB⟩ : ∃ GB, growI x2 r2 k2 L = GB := ⟨_, rfl⟩
    have HGA := Lib.hid (And.intro hGA (show Mid GA by rw [← hGA]; exact grow_mid GX.out.1 hL2))
    have HGB := Lib.hid (And.intro hGB (show Mid GB by rw [← hGB]; exact grow_mid GX.out.2 hL2))
    have HGG := Lib.hid (show Mid (ch GA GB) by rw [← hGA, ← hGB]; exact HE.out.gmid L hL2)
    have HSE := Lib.hid (show Settling (encF E) L (ch GA GB) by
      rw [← hGA, ← hGB]
      have hl := lcm_of b1 d1 HL.out
      exact HE.out.settle L hL1 hL2 hl.dp hl.dq)
    clear hGA hGB
    have EV := Lib.hid (show ∀ (args : Array Value) (w : World), (callFunc 152 args).run Try.prog w = .ok (.enter 152 args) w from enters_of Try.func152 (by kernel_rfl) rfl)
    have EX := Lib.hid (show ∀ (args : Array Value) (w : World), (callFunc 158 args).run Try.prog w = .ok (.enter 158 args) w from enters_of Try.func158 (by kernel_rfl) rfl)
    have HCG := Lib.hid (show ∀ u, Two2 w fc a3 n3 cap3 r1 k1 x1 a4 n4 cap4 r2 k2 x2 u ∧ Clo2 w b9 b10 B1 B2 (atC x1 r1 k1) (atC x2 r2 k2) u → ClosG 158 #[.pointer (some ⟨w.heap.size + 1 + 1, 0, none⟩), .pointer (some ⟨b9, 0, none⟩), .pointer (some ⟨b10, 0, none⟩)] 1000 (encF E) u from fun u hu =>
      (paired1_any hu.1.ch hu.2.v1 hu.2.v2 EC.out EV.out EV.out HCH.out (hu.2.k1.less (show 1000 ≤ 4194304 by omega)) (hu.2.k2.less (show 1000 ≤ 4194304 by omega)) (fun t ht => at_mid GX.out.1 (by omega)) (fun t ht => at_mid GX.out.2 (by omega))).congr fun t ht => (HE.out.val t (by omega)).symm)
    have KS := Lib.hid (show ∀ u, Two2 w fc a3 n3 cap3 r1 k1 x1 a4 n4 cap4 r2 k2 x2 u ∧ Clo2 w b9 b10 B1 B2 (atC x1 r1 k1) (atC x2 r2 k2) u → (fun u => (u.cell? ⟨w.heap.size, 0, none⟩ = some (.slice a3 n3 cap3) ∧ u.cell? ⟨w.heap.size, 1, none⟩ = some (.int .i64 r1) ∧ u.cell? ⟨w.heap.size, 2, none⟩ = some (.int .i64 k1)) ∧ (u.cell? ⟨w.heap.size + 1, 0, none⟩ = some (.slice a4 n4 cap4) ∧ u.cell? ⟨w.heap.size + 1, 1, none⟩ = some (.int .i64 r2) ∧ u.cell? ⟨w.heap.size + 1, 2, none⟩ = some (.int .i64 k2)) ∧ u.cell? ⟨w.heap.size + 1 + 1, 0, none⟩ = some (.func (.func fc) #[] #[]) ∧ Hid (Two2 w fc a3 n3 cap3 r1 k1 x1 a4 n4 cap4 r2 k2 x2 u ∧ Clo2 w b9 b10 B1 B2 (atC x1 r1 k1) (atC x2 r2 k2) u)) u from fun u hu => ⟨⟨hu.1.c1.c0, hu.1.c1.c1, hu.1.c1.c2⟩, ⟨hu.1.c2.c0, hu.1.c2.c1, hu.1.c2.c2⟩, hu.1.ch, hu⟩)
    have O1 := Lib.hid (And.intro (HT.out.call (Below.drew (Below.refl _ _))) (HC.out.call (Below.drew (Below.refl _ _))))
    have ec := EC.out
    go_upto_region 9 with fail
    refine wp_region_keeps (fun u => (u.cell? ⟨w.heap.size, 0, none⟩ = some (.slice a3 n3 cap3) ∧ u.cell? ⟨w.heap.size, 1, none⟩ = some (.int .i64 r1) ∧ u.cell? ⟨w.heap.size, 2, none⟩ = some (.int .i64 k1)) ∧ (u.cell? ⟨w.heap.size + 1, 0, none⟩ = some (.slice a4 n4 cap4) ∧ u.cell? ⟨w.heap.size + 1, 1, none⟩ = some (.int .i64 r2) ∧ u.cell? ⟨w.heap.size + 1, 2, none⟩ = some (.int .i64 k2)) ∧ u.cell? ⟨w.heap.size + 1 + 1, 0, none⟩ = some (.func (.func fc) #[] #[]) ∧ Hid (Two2 w fc a3 n3 cap3 r1 k1 x1 a4 n4 cap4 r2 k2 x2 u ∧ Clo2 w b9 b10 B1 B2 (atC x1 r1 k1) (atC x2 r2 k2) u)) 13 2 (by kernel_rfl) (by kernel_rfl) (KS.out _ O1.out) (fun hHeld0 => ?_)
    refine wpAnyK_take (i := 0) (v := ?_) rfl (by kernel_rfl) (fun _ _ _ h => h) (Or.inl ⟨by rfl, ?_⟩) (by assumption) ?_
    rotate_left
    · (intro w hSw; (try dsimp only at hSw); go_simp; try with_reducible rfl)
    try simp only [Act.put, List.getElem_toArray, List.getElem_cons_zero, List.getElem_cons_succ, List.setIfInBounds_toArray, List.set_cons_zero, List.set_cons_succ]
    refine wpAnyK_take (i := 1) (v := ?_) rfl (by kernel_rfl) (fun _ _ _ h => h) (Or.inl ⟨by rfl, ?_⟩) (by assumption) ?_
    rotate_left
    · (intro w hSw; (try dsimp only at hSw); go_simp; try with_reducible rfl)
    try simp only [Act.put, List.getElem_toArray, List.getElem_cons_zero, List.getElem_cons_succ, List.setIfInBounds_toArray, List.set_cons_zero, List.set_cons_succ]
    refine wpAnyK_take (i := 2) (v := ?_) rfl (by kernel_rfl) (fun _ _ _ h => h) (Or.inl ⟨by rfl, ?_⟩) (by assumption) ?_
    rotate_left
    · (intro w hSw; (try dsimp only at hSw); go_simp; try with_reducible rfl)
    try simp only [Act.put, List.getElem_toArray, List.getElem_cons_zero, List.getElem_cons_succ, List.setIfInBounds_toArray, List.set_cons_zero, List.set_cons_succ]
    refine wpAnyK_take (i := 3) (v := ?_) rfl (by kernel_rfl) (fun _ _ _ h => h) (Or.inl ⟨by rfl, ?_⟩) (by assumption) ?_
    rotate_left
    · (intro w hSw; (try dsimp only at hSw); go_simp; try with_reducible rfl)
    try simp only [Act.put, List.getElem_toArray, List.getElem_cons_zero, List.getElem_cons_succ, List.setIfInBounds_toArray, List.set_cons_zero, List.set_cons_succ]
    refine wpAnyK_take (i := 5) (v := ?_) rfl (by kernel_rfl) (fun _ _ _ h => h) (Or.inl ⟨by rfl, ?_⟩) (by assumption) ?_
    rotate_left
    · (intro w hSw; (try dsimp only at hSw); go_simp; try with_reducible rfl)
    try simp only [Act.put, List.getElem_toArray, List.getElem_cons_zero, List.getElem_cons_succ, List.setIfInBounds_toArray, List.set_cons_zero, List.set_cons_succ]
    refine wpAnyK_take (i := 6) (v := ?_) rfl (by kernel_rfl) (fun _ _ _ h => h) (Or.inl ⟨by rfl, ?_⟩) (by assumption) ?_
    rotate_left
    · (intro w hSw; (try dsimp only at hSw); go_simp; try with_reducible rfl)
    try simp only [Act.put, List.getElem_toArray, List.getElem_cons_zero, List.getElem_cons_succ, List.setIfInBounds_toArray, List.set_cons_zero, List.set_cons_succ]
    refine wpAnyK_take (i := 9) (v := ?_) rfl (by kernel_rfl) (fun _ _ _ h => h) (Or.inl ⟨by rfl, ?_⟩) (by assumption) ?_
    rotate_left
    · (intro w hSw; (try dsimp only at hSw); go_simp; try with_reducible rfl)
    try simp only [Act.put, List.getElem_toArray, List.getElem_cons_zero, List.getElem_cons_succ, List.setIfInBounds_toArray, List.set_cons_zero, List.set_cons_succ]
    refine wpAnyK_step (i := 4) rfl (by kernel_rfl) (fun K hK => ?_)
    go_simp
    with_reducible refine (growth_any a3 n3 cap3 x1 r1 k1 GX.out.1 L hL2 GA HGA.out.1 _ O1.out.1.r1).mono ?_
    rintro e u1 ⟨rfl, hb1⟩
    have O2 := Lib.hid (And.intro (O1.out.1.call hb1) (O1.out.2.call hb1))
    refine hK.out _ _ (KS.out _ O2.out) (fun hHeld1 => ?_)
    clear hK K hHeld0 hb1
    try simp only [Act.put, List.getElem_toArray, List.getElem_cons_zero, List.getElem_cons_succ, List.setIfInBounds_toArray, List.set_cons_zero, List.set_cons_succ]
    refine wpAnyK_step (i := 7) rfl (by kernel_rfl) (fun K hK => ?_)
    go_simp
    with_reducible refine (growth_any a4 n4 cap4 x2 r2 k2 GX.out.2 L hL2 GB HGB.out.1 _ O2.out.1.r2).mono ?_
    rintro e u2 ⟨rfl, hb2⟩
    have O3 := Lib.hid (And.intro (O2.out.1.call hb2) (O2.out.2.call hb2))
    refine hK.out _ _ (KS.out _ O3.out) (fun hHeld2 => ?_)
    clear hK K hHeld1 hb2
    try simp only [Act.put, List.getElem_toArray, List.getElem_cons_zero, List.getElem_cons_succ, List.setIfInBounds_toArray, List.set_cons_zero, List.set_cons_succ]
    refine wpAnyK_step (i := 8) rfl (by kernel_rfl) (fun K hK => ?_)
    go_simp
    with_reducible refine (HCH.out.at HGA.out.2 HGB.out.2 _).mono ?_
    rintro e u3 ⟨rfl, rfl⟩
    refine hK.out _ _ (KS.out _ O3.out) (fun hHeld3 => ?_)
    clear hK K hHeld2
    try simp only [Act.put, List.getElem_toArray, List.getElem_cons_zero, List.getElem_cons_succ, List.setIfInBounds_toArray, List.set_cons_zero, List.set_cons_succ]
    refine wpAnyK_step (i := 10) rfl (by kernel_rfl) (fun K hK => ?_)
    go_simp
    with_reducible refine (settled_any 158 #[.pointer (some ⟨w.heap.size + 1 + 1, 0, none⟩), .pointer (some ⟨b9, 0, none⟩), .pointer (some ⟨b10, 0, none⟩)] (encF E) L (ch GA GB) hL1 hL2 (fun t ht => HE.out.mid t (by omega)) HGG.out HSE.out _ EX.out (HCG.out _ O3.out)).mono ?_
    rintro e u5 ⟨hb5, ⟨a5, n5, cap5, zs5, p5, inc5, rfl, hr5, hf5, hx5⟩ | ⟨rfl, hno5⟩⟩
    · have HP := Lib.hid (GivesForm.toE HE.out.tame (form_post (b := w.heap.size + 3) O3.out.1.below (by omega) O3.out.1.res.lt hb5 hr5 hx5 hf5))
      have O4 := Lib.hid (And.intro (O3.out.1.call hb5) (O3.out.2.call hb5))
      refine hK.out _ _ (KS.out _ O4.out) (fun hHeldz => ?_)
      clear hK K hHeld3 hb5 hr5 hf5 hx5
      try simp only [Act.put, List.getElem_toArray, List.getElem_cons_zero, List.getElem_cons_succ, List.setIfInBounds_toArray, List.set_cons_zero, List.set_cons_succ]
      refine wpAnyK_take (i := 11) (v := ?_) rfl (by kernel_rfl) (fun _ _ _ h => h) (Or.inl ⟨by rfl, ?_⟩) (by assumption) ?_
      rotate_left
      · (intro w hSw; (try dsimp only at hSw); go_simp; try with_reducible rfl)
      try simp only [Act.put, List.getElem_toArray, List.getElem_cons_zero, List.getElem_cons_succ, List.setIfInBounds_toArray, List.set_cons_zero, List.set_cons_succ]
      refine wpAnyK_take (i := 12) (v := ?_) rfl (by kernel_rfl) (fun _ _ _ h => h) (Or.inl ⟨by rfl, ?_⟩) (by assumption) ?_
      rotate_left
      · (intro w hSw; (try dsimp only at hSw); go_simp; try with_reducible rfl)
      try simp only [Act.put, List.getElem_toArray, List.getElem_cons_zero, List.getElem_cons_succ, List.setIfInBounds_toArray, List.set_cons_zero, List.set_cons_succ]
      refine wpAnyK_done (by kernel_rfl) ?_
      simp only [List.drop_succ_cons, List.drop_zero]
      obtain ⟨d0, d1, d2, g0, g1, g2⟩ := O4.out.1.res
      clear hHeldz
      go_wp2_with fail
      exact bodyPost_ret (v := .tuple #[curV a5 n5 cap5 p5 inc5, .int .i64 0]) (by simp [results, Try.results120, go_sem, d0, d1, d2]) rfl HP.out
    · have HP := Lib.hid (GivesForm.toE HE.out.tame (none_post (b := w.heap.size + 3) O3.out.1.below (by omega) hb5 hno5))
      have O4 := Lib.hid (And.intro (O3.out.1.call hb5) (O3.out.2.call hb5))
      refine hK.out _ _ (KS.out _ O4.out) (fun hHeldz => ?_)
      clear hK K hHeld3 hb5 hno5
      try simp only [Act.put, List.getElem_toArray, List.getElem_cons_zero, List.getElem_cons_succ, List.setIfInBounds_toArray, List.set_cons_zero, List.set_cons_succ]
      refine wpAnyK_take (i := 11) (v := ?_) rfl (by kernel_rfl) (fun _ _ _ h => h) (Or.inl ⟨by rfl, ?_⟩) (by assumption) ?_
      rotate_left
      · (intro w hSw; (try dsimp only at hSw); go_simp; try with_reducible rfl)
      try simp only [Act.put, List.getElem_toArray, List.getElem_cons_zero, List.getElem_cons_succ, List.setIfInBounds_toArray, List.set_cons_zero, List.set_cons_succ]
      refine wpAnyK_take (i := 12) (v := ?_) rfl (by kernel_rfl) (fun _ _ _ h => h) (Or.inl ⟨by rfl, ?_⟩) (by assumption) ?_
      rotate_left
      · (intro w hSw; (try dsimp only at hSw); go_simp; try with_reducible rfl)
      try simp only [Act.put, List.getElem_toArray, List.getElem_cons_zero, List.getElem_cons_succ, List.setIfInBounds_toArray, List.set_cons_zero, List.set_cons_succ]
      refine wpAnyK_done (by kernel_rfl) ?_
      simp only [List.drop_succ_cons, List.drop_zero]
      obtain ⟨d0, d1, d2, g0, g1, g2⟩ := O4.out.1.res
      clear hHeldz
      go_wp2_with fail
      exact bodyPost_ret (v := .tuple #[curV none 0 0 0 0, .int .i64 3]) (by simp [results, Try.results120, go_sem, d0, d1, d2]) rfl HP.out

end Go.Proofs.Ytknimlpdpgpliaa

namespace Go.Proofs.Ytknimlpdpgpliaa
open Go.RowKit
set_option linter.unusedSimpArgs false

/-- The curve in normal form with the values E is handed back, with no error. -/
def GivesOk (E : Nat → Option Int) (w : World) (e : Ending) (w' : World) : Prop :=
  ∃ (a : Option Addr) (n cap : Nat) (zs : List Int) (p : Nat) (inc : Int), e = .returned (.tuple #[curV a n cap p inc, .int .i64 0]) ∧ Below w.heap.size w w' ∧ RowZ w' a n cap zs ∧ EForm zs p inc E ∧ ∀ x, a = some x → w.heap.size ≤ x.block

theorem GivesE.ok {E : Nat → Option Int} (hc : ECan E) {w w' : World} {e : Ending} (h : GivesE E w e w') : GivesOk E w e w' := by
  obtain ⟨hb, ⟨a, n, cap, zs, p, inc, he, hr, hf, hx⟩ | ⟨_, hno⟩⟩ := h
  · exact ⟨a, n, cap, zs, p, inc, he, hb, hr, hf, hx⟩
  · exact absurd hc hno

theorem GivesE.to {E E' : Nat → Option Int} (h : E = E') {w w' : World} {e : Ending} (k : GivesE E w e w') : GivesE E' w e w' := h ▸ k

theorem GivesE.post {E : Nat → Option Int} {w w1 w2 : World} {b : Nat} (hB : Below w.heap.size w w1) (hb1 : w.heap.size ≤ b) (hb2 : b < w1.heap.size) (h2 : Below w1.heap.size w1 w2) {a : Option Addr} {n cap : Nat} {zs : List Int} {p : Nat} {inc : Int} (hr : RowZ w2 a n cap zs)
    (hx : ∀ x, a = some x → w1.heap.size ≤ x.block) (hf : EForm zs p inc E) :
    GivesE E w (.returned (.tuple #[curV a n cap p inc, .int .i64 0])) (((w2.setCell ⟨b, 0, none⟩ (.slice a n cap)).setCell ⟨b, 1, none⟩ (.int .i64 p)).setCell ⟨b, 2, none⟩ (.int .i64 inc)) := by
  have hne : ∀ x : Addr, a = some x → 1 ≤ n → x.block ≠ b := fun x h _ => by have := hx x h; omega
  exact ⟨below_set3 (hB.trans (h2.mono hB.size)) hb1 _ _ _, .inl ⟨a, n, cap, zs, p, inc, rfl, ((hr.store hne _ _).store hne _ _).store hne _ _, hf, fun x h => by have := hx x h; have := hB.size; omega⟩⟩

theorem GivesE.postNo {E : Nat → Option Int} {w w1 w2 : World} {b : Nat} (hB : Below w.heap.size w w1) (hb1 : w.heap.size ≤ b) (h2 : Below w1.heap.size w1 w2) (hno : ¬ ECan E) :
    GivesE E w (.returned (.tuple #[curV none 0 0 0 0, .int .i64 3])) (((w2.setCell ⟨b, 0, none⟩ (.slice none 0 0)).setCell ⟨b, 1, none⟩ (.int .i64 0)).setCell ⟨b, 2, none⟩ (.int .i64 0)) :=
  ⟨below_set3 (hB.trans (h2.mono hB.size)) hb1 _ _ _, .inr ⟨rfl, hno⟩⟩

/-- The least common multiple of the periods of the normal forms. -/
def LcmN (z1 : List Int) (p1 : Nat) (i1 : Int) (z2 : List Int) (p2 : Nat) (i2 : Int) (L : Nat) : Prop :=
  ∃ y1 q1 j1 y2 q2 j2, NormC z1 p1 i1 y1 q1 j1 ∧ NormC z2 p2 i2 y2 q2 j2 ∧ q1 / Nat.gcd q1 q2 * q2 = L

theorem ch_min : ChG 122 min := fun x y w _ _ => lesser_any x y w

set_option maxRecDepth 100000 in
set_option maxHeartbeats 1600000 in
theorem min_ok (a1 : Option Addr) (n1 cap1 : Nat) (z1 : List Int) (p1 : Nat) (i1 : Int) (g1 : Good z1 p1 i1) (a2 : Option Addr) (n2 cap2 : Nat) (z2 : List Int) (p2 : Nat) (i2 : Int) (g2 : Good z2 p2 i2) (L : Nat) (hL : LcmN z1 p1 i1 z2 p2 i2 L) (hL2 : L ≤ 120)
    (w : World) (h1 : RowZ w a1 n1 cap1 z1) (h2 : RowZ w a2 n2 cap2 z2) :
    Calls Try.prog 74 #[curV a1 n1 cap1 p1 i1, curV a2 n2 cap2 p2 i2] w (GivesE (eMin z1 p1 i1 z2 p2 i2) w) := by
  obtain ⟨y1, q1, j1, y2, q2, j2, hn1, hn2, hq⟩ := hL
  have e1 := (hn1.eform g1).2.1
  have e2 := (hn2.eform g2).2.1
  have hE : eMin y1 q1 j1 y2 q2 j2 = eMin z1 p1 i1 z2 p2 i2 := by
    funext t; unfold eMin; rw [e1, e2]
  have hP := min_pair (hn1.good g1) (hn2.good g2)
  rw [hE] at hP
  have ec : ∀ (args : Array Value) (w : World), (callFunc 122 args).run Try.prog w = .ok (.enter 122 args) w := enters_of Try.func122 (by kernel_rfl) rfl
  have HC := Lib.hid (show ∀ W, RowZ W a1 n1 cap1 z1 → RowZ W a2 n2 cap2 z2 → Calls Try.prog 120 #[curV a1 n1 cap1 p1 i1, curV a2 n2 cap2 p2 i2, .func (.func 122) #[] #[]] W (GivesE (eMin z1 p1 i1 z2 p2 i2) W) from fun W r1 r2 =>
    pair_ok 122 min ch_min ec a1 n1 cap1 z1 p1 i1 g1 a2 n2 cap2 z2 p2 i2 g2 hn1 hn2 L hq hL2 _ hP W r1 r2)
  obtain ⟨W, hW⟩ : ∃ W, ((w.alloc (.cells #[.slice a1 n1 cap1, .int .i64 p1, .int .i64 i1] 26)).alloc (.cells #[.slice a2 n2 cap2, .int .i64 p2, .int .i64 i2] 26)).alloc (.cells #[.slice none 0 0, .int .i64 0, .int .i64 0] 26) = W := ⟨_, rfl⟩
  have hB : Below w.heap.size w W := by rw [← hW]; exact (((Below.refl _ _).alloc (Nat.le_refl _) _).alloc (by simp) _).alloc (by simp; omega) _
  have KR := Lib.hid (show Cur3 W (w.heap.size + 2) (.slice none 0 0) (.int .i64 0) (.int .i64 0) by
    have := Cur3.new2 (w.alloc (.cells #[.slice a1 n1 cap1, .int .i64 p1, .int .i64 i1] 26)) (.slice none 0 0) (.int .i64 0) (.int .i64 0) 26 (.cells #[.slice a2 n2 cap2, .int .i64 p2, .int .i64 i2] 26)
    rw [hW] at this
    simpa using this)
  have HR := Lib.hid (And.intro (h1.under hB) (h2.under hB))
  have HB := Lib.hid hB
  have HW := Lib.hid hW
  clear h1 h2 hB hW g1 g2 hn1 hn2 hq e1 e2 hE hP ec hL2
  go_enter Try.func74, Try.ntmps74
  go_wp2_with fail
  rw [HW.out]
  refine (HC.out W HR.out.1 HR.out.2).mono ?_
  rintro e w2 ⟨hb, ⟨a, n, cap, zs, p, inc, rfl, hr, hf, hx⟩ | ⟨rfl, hno⟩⟩
  · have HP := Lib.hid (GivesE.post (b := w.heap.size + 2) HB.out (by omega) KR.out.lt hb hr hx hf)
    obtain ⟨c0, c1, c2, f0, f1, f2⟩ := KR.out.below hb
    clear hb hr hf hx
    go_wp2_with fail
    exact bodyPost_ret (v := .tuple #[curV a n cap p inc, .int .i64 0]) (by simp [results, Try.results74, go_sem, c0, c1, c2]) rfl HP.out
  · have HP := Lib.hid (GivesE.postNo (b := w.heap.size + 2) HB.out (by omega) hb hno)
    obtain ⟨c0, c1, c2, f0, f1, f2⟩ := KR.out.below hb
    clear hb hno
    go_wp2_with fail
    exact bodyPost_ret (v := .tuple #[curV none 0 0 0 0, .int .i64 3]) (by simp [results, Try.results74, go_sem, c0, c1, c2]) rfl HP.out

theorem ch_sum : ChG 121 plI := fun x y w hx hy => pplus_any x y hx hy w

set_option maxRecDepth 100000 in
set_option maxHeartbeats 1600000 in
theorem sum_ok (a1 : Option Addr) (n1 cap1 : Nat) (z1 : List Int) (p1 : Nat) (i1 : Int) (g1 : Good z1 p1 i1) (a2 : Option Addr) (n2 cap2 : Nat) (z2 : List Int) (p2 : Nat) (i2 : Int) (g2 : Good z2 p2 i2) (L : Nat) (hL : LcmN z1 p1 i1 z2 p2 i2 L) (hL2 : L ≤ 120)
    (w : World) (h1 : RowZ w a1 n1 cap1 z1) (h2 : RowZ w a2 n2 cap2 z2) :
    Calls Try.prog 73 #[curV a1 n1 cap1 p1 i1, curV a2 n2 cap2 p2 i2] w (GivesE (eSum z1 p1 i1 z2 p2 i2) w) := by
  obtain ⟨y1, q1, j1, y2, q2, j2, hn1, hn2, hq⟩ := hL
  have e1 := (hn1.eform g1).2.1
  have e2 := (hn2.eform g2).2.1
  have hE : eSum y1 q1 j1 y2 q2 j2 = eSum z1 p1 i1 z2 p2 i2 := by
    funext t; unfold eSum; rw [e1, e2]
  have hP := sum_pair (hn1.good g1) (hn2.good g2)
  rw [hE] at hP
  have ec : ∀ (args : Array Value) (w : World), (callFunc 121 args).run Try.prog w = .ok (.enter 121 args) w := enters_of Try.func121 (by kernel_rfl) rfl
  have HC := Lib.hid (show ∀ W, RowZ W a1 n1 cap1 z1 → RowZ W a2 n2 cap2 z2 → Calls Try.prog 120 #[curV a1 n1 cap1 p1 i1, curV a2 n2 cap2 p2 i2, .func (.func 121) #[] #[]] W (GivesE (eSum z1 p1 i1 z2 p2 i2) W) from fun W r1 r2 =>
    pair_ok 121 plI ch_sum ec a1 n1 cap1 z1 p1 i1 g1 a2 n2 cap2 z2 p2 i2 g2 hn1 hn2 L hq hL2 _ hP W r1 r2)
  obtain ⟨W, hW⟩ : ∃ W, ((w.alloc (.cells #[.slice a1 n1 cap1, .int .i64 p1, .int .i64 i1] 26)).alloc (.cells #[.slice a2 n2 cap2, .int .i64 p2, .int .i64 i2] 26)).alloc (.cells #[.slice none 0 0, .int .i64 0, .int .i64 0] 26) = W := ⟨_, rfl⟩
  have hB : Below w.heap.size w W := by rw [← hW]; exact (((Below.refl _ _).alloc (Nat.le_refl _) _).alloc (by simp) _).alloc (by simp; omega) _
  have KR := Lib.hid (show Cur3 W (w.heap.size + 2) (.slice none 0 0) (.int .i64 0) (.int .i64 0) by
    have := Cur3.new2 (w.alloc (.cells #[.slice a1 n1 cap1, .int .i64 p1, .int .i64 i1] 26)) (.slice none 0 0) (.int .i64 0) (.int .i64 0) 26 (.cells #[.slice a2 n2 cap2, .int .i64 p2, .int .i64 i2] 26)
    rw [hW] at this
    simpa using this)
  have HR := Lib.hid (And.intro (h1.under hB) (h2.under hB))
  have HB := Lib.hid hB
  have HW := Lib.hid hW
  clear h1 h2 hB hW g1 g2 hn1 hn2 hq e1 e2 hE hP ec hL2
  go_enter Try.func73, Try.ntmps73
  go_wp2_with fail
  rw [HW.out]
  refine (HC.out W HR.out.1 HR.out.2).mono ?_
  rintro e w2 ⟨hb, ⟨a, n, cap, zs, p, inc, rfl, hr, hf, hx⟩ | ⟨rfl, hno⟩⟩
  · have HP := Lib.hid (GivesE.post (b := w.heap.size + 2) HB.out (by omega) KR.out.lt hb hr hx hf)
    obtain ⟨c0, c1, c2, f0, f1, f2⟩ := KR.out.below hb
    clear hb hr hf hx
    go_wp2_with fail
    exact bodyPost_ret (v := .tuple #[curV a n cap p inc, .int .i64 0]) (by simp [results, Try.results73, go_sem, c0, c1, c2]) rfl HP.out
  · have HP := Lib.hid (GivesE.postNo (b := w.heap.size + 2) HB.out (by omega) hb hno)
    obtain ⟨c0, c1, c2, f0, f1, f2⟩ := KR.out.below hb
    clear hb hno
    go_wp2_with fail
    exact bodyPost_ret (v := .tuple #[curV none 0 0 0 0, .int .i64 3]) (by simp [results, Try.results73, go_sem, c0, c1, c2]) rfl HP.out

/-! ## The examples -/

theorem per_one {z : List Int} {i : Int} (g : Good z 1 i) {y : List Int} {q : Nat} {j : Int} (h : NormC z 1 i y q j) : q = 1 := by
  have h1 := (h.good g).p1
  rcases h with ⟨_, s, hn, _, _, hp⟩ | ⟨_, _, _, _, _, hp, _⟩ <;> omega

theorem lcm_one {z1 z2 : List Int} {i1 i2 : Int} (g1 : Good z1 1 i1) (g2 : Good z2 1 i2) : LcmN z1 1 i1 z2 1 i2 1 := by
  obtain ⟨y1, q1, j1, h1⟩ := g1.norm_ex
  obtain ⟨y2, q2, j2, h2⟩ := g2.norm_ex
  obtain rfl := per_one g1 h1
  obtain rfl := per_one g2 h2
  exact ⟨_, _, _, _, _, _, h1, h2, by decide⟩

theorem e0_good : Good [0] 1 3 := (okC_iff [0] 1 3).1 (by decide)
theorem e1_good : Good [0, 10, 12] 1 2 := (okC_iff [0, 10, 12] 1 2).1 (by decide)
theorem e0_fin : ¬ InfC [0] := by rw [infC_iff]; decide
theorem e1_fin : ¬ InfC [0, 10, 12] := by rw [infC_iff]; decide
theorem e0_at (t : Nat) : atC [0] 1 3 t = 3 * (t : Int) := by
  have hp := e0_good.per (show ¬ ([0] : List Int).getD (([0] : List Int).length - 1) 0 = infV by decide)
  induction t with
  | zero => decide
  | succ t ih => have := hp t (Nat.zero_le _); omega
theorem e1_at (t : Nat) (ht : 2 ≤ t) : atC [0, 10, 12] 1 2 t = 8 + 2 * (t : Int) := by
  have hp := e1_good.per (show ¬ ([0, 10, 12] : List Int).getD (([0, 10, 12] : List Int).length - 1) 0 = infV by decide)
  induction t with
  | zero => omega
  | succ t ih =>
    by_cases h : t = 1
    · subst h; decide
    · have h1 := hp t (by show 2 ≤ t; omega)
      have h2 := ih (by omega)
      omega
theorem e1_at0 : atC [0, 10, 12] 1 2 0 = 0 := by decide
theorem e1_at1 : atC [0, 10, 12] 1 2 1 = 10 := by decide

theorem ex_min (t : Nat) : eMin [0] 1 3 [0, 10, 12] 1 2 t = some (if t ≤ 8 then 3 * (t : Int) else 8 + 2 * (t : Int)) := by
  unfold eMin
  rw [eC_fin e0_fin, eC_fin e1_fin, e0_at]
  show some (min (3 * (t : Int)) (atC [0, 10, 12] 1 2 t)) = _
  by_cases h0 : t = 0
  · subst h0; rw [e1_at0]; rfl
  by_cases h1 : t = 1
  · subst h1; rw [e1_at1]; rfl
  rw [e1_at t (by omega)]
  by_cases h8 : t ≤ 8
  · rw [if_pos h8]; congr 1; omega
  · rw [if_neg h8]; congr 1; omega

theorem ex_min8 : eMin [0] 1 3 [0, 10, 12] 1 2 8 = some 24 := ex_min 8
theorem ex_min20 : eMin [0] 1 3 [0, 10, 12] 1 2 20 = some 48 := ex_min 20
theorem ex_min_can : ECan (eMin [0] 1 3 [0, 10, 12] 1 2) := by
  refine can_fin (s := 8) (p := 1) (c := 2) ex_min (fun t ht => ?_) (by omega) (by omega) (by omega) (by decide) (fun t ht => ?_) (by decide) (by omega)
  · show (if t + 1 ≤ 8 then 3 * ((t + 1 : Nat) : Int) else 8 + 2 * ((t + 1 : Nat) : Int)) = (if t ≤ 8 then 3 * (t : Int) else 8 + 2 * (t : Int)) + 2
    rw [if_neg (by omega)]
    by_cases h : t ≤ 8
    · rw [if_pos h]; omega
    · rw [if_neg h]; omega
  · show (if t ≤ 8 then 3 * (t : Int) else 8 + 2 * (t : Int)) ≤ (if t + 1 ≤ 8 then 3 * ((t + 1 : Nat) : Int) else 8 + 2 * ((t + 1 : Nat) : Int))
    split <;> split <;> omega

theorem low_good : Good [0, 0, 2] 1 3 := (okC_iff [0, 0, 2] 1 3).1 (by decide)
theorem low_fin : ¬ InfC [0, 0, 2] := by rw [infC_iff]; decide
theorem low_at (t : Nat) (ht : 2 ≤ t) : atC [0, 0, 2] 1 3 t = 3 * (t : Int) - 4 := by
  have h := (low_good.per low_fin).mul (t - 2)
  have e := h 2 (by decide)
  rw [show 2 + (t - 2) * 1 = t by omega] at e
  rw [e, atC_lt (by decide)]
  show (2 : Int) + ((t - 2 : Nat) : Int) * 3 = _
  omega

theorem ex_low : EForm [0, 0, 2] 1 3 (eLower 4 [0] 1 3) := by
  refine ⟨low_good, fun t => ?_, 2, by decide, low_good.per low_fin, by decide, fun q h1 h2 => by omega, .inr ?_⟩
  · unfold eLower
    rw [eC_fin low_fin, eC_fin e0_fin, e0_at]
    show some (atC [0, 0, 2] 1 3 t) = some (max (3 * (t : Int) - 4) 0)
    by_cases h0 : t = 0
    · subst h0; rfl
    by_cases h1 : t = 1
    · subst h1; rfl
    rw [low_at t (by omega)]; congr 1; omega
  · show ¬ atC [0, 0, 2] 1 3 2 = atC [0, 0, 2] 1 3 1 + 3
    decide

/-! ## Boxes -/

/-- A curve in a box, and its list. -/
structure Bx (u : World) (F : Nat) (a : Option Addr) (n cap p : Nat) (inc : Int) (zs : List Int) : Prop where
  box : Cur3 u F (.slice a n cap) (.int .i64 p) (.int .i64 inc)
  row : RowZ u a n cap zs
theorem Bx.under {u v : World} {F : Nat} {a : Option Addr} {n cap p : Nat} {inc : Int} {zs : List Int} (h : Bx u F a n cap p inc zs) (hb : Below u.heap.size u v) : Bx v F a n cap p inc zs := ⟨h.box.below hb, h.row.under hb⟩
theorem Bx.new {w : World} {a : Option Addr} {n cap p : Nat} {inc : Int} {zs : List Int} (h : RowZ w a n cap zs) : Bx (w.alloc (.cells #[.slice a n cap, .int .i64 p, .int .i64 inc] 26)) w.heap.size a n cap p inc zs := ⟨Cur3.new _ _ _ _ _, h.alloc _⟩
theorem below_box {w : World} (o : Obj) : Below w.heap.size w (w.alloc o) := (Below.refl _ _).alloc (Nat.le_refl _) _

theorem lits5 (w : World) : Bx ((((w.alloc (.cells #[.int .i64 0] 3)).alloc (.cells #[.int .i64 0, .int .i64 10, .int .i64 12] 3)).alloc (.cells #[.slice (some ⟨w.heap.size, 0, none⟩) 1 1, .int .i64 1, .int .i64 3] 26)).alloc (.cells #[.slice (some ⟨w.heap.size + 1, 0, none⟩) 3 3, .int .i64 1, .int .i64 2] 26)) (w.heap.size + 1 + 1) (some ⟨w.heap.size, 0, none⟩) 1 1 1 3 [0] ∧
    Bx ((((w.alloc (.cells #[.int .i64 0] 3)).alloc (.cells #[.int .i64 0, .int .i64 10, .int .i64 12] 3)).alloc (.cells #[.slice (some ⟨w.heap.size, 0, none⟩) 1 1, .int .i64 1, .int .i64 3] 26)).alloc (.cells #[.slice (some ⟨w.heap.size + 1, 0, none⟩) 3 3, .int .i64 1, .int .i64 2] 26)) (w.heap.size + 1 + 1 + 1) (some ⟨w.heap.size + 1, 0, none⟩) 3 3 1 2 [0, 10, 12] ∧
    Below w.heap.size w ((((w.alloc (.cells #[.int .i64 0] 3)).alloc (.cells #[.int .i64 0, .int .i64 10, .int .i64 12] 3)).alloc (.cells #[.slice (some ⟨w.heap.size, 0, none⟩) 1 1, .int .i64 1, .int .i64 3] 26)).alloc (.cells #[.slice (some ⟨w.heap.size + 1, 0, none⟩) 3 3, .int .i64 1, .int .i64 2] 26)) := by
  have r1 := rowZ_lit w [0] 3 (by decide) (by decide)
  have r2 := rowZ_lit (w.alloc (.cells #[.int .i64 0] 3)) [0, 10, 12] 3 (by decide) (by decide)
  have e1 : (w.alloc (.cells #[.int .i64 0] 3)).heap.size = w.heap.size + 1 := by simp
  rw [e1] at r2
  have b1 := Cur3.new ((w.alloc (.cells #[.int .i64 0] 3)).alloc (.cells #[.int .i64 0, .int .i64 10, .int .i64 12] 3)) (.slice (some ⟨w.heap.size, 0, none⟩) 1 1) (.int .i64 1) (.int .i64 3) 26
  rw [show ((w.alloc (.cells #[.int .i64 0] 3)).alloc (.cells #[.int .i64 0, .int .i64 10, .int .i64 12] 3)).heap.size = w.heap.size + 1 + 1 by simp] at b1
  have b2 := Cur3.new (((w.alloc (.cells #[.int .i64 0] 3)).alloc (.cells #[.int .i64 0, .int .i64 10, .int .i64 12] 3)).alloc (.cells #[.slice (some ⟨w.heap.size, 0, none⟩) 1 1, .int .i64 1, .int .i64 3] 26)) (.slice (some ⟨w.heap.size + 1, 0, none⟩) 3 3) (.int .i64 1) (.int .i64 2) 26
  rw [show (((w.alloc (.cells #[.int .i64 0] 3)).alloc (.cells #[.int .i64 0, .int .i64 10, .int .i64 12] 3)).alloc (.cells #[.slice (some ⟨w.heap.size, 0, none⟩) 1 1, .int .i64 1, .int .i64 3] 26)).heap.size = w.heap.size + 1 + 1 + 1 by simp] at b2
  exact ⟨⟨b1.alloc _, ((r1.alloc _).alloc _).alloc _⟩, ⟨b2, (r2.alloc _).alloc _⟩, ((((Below.refl _ _).alloc (Nat.le_refl _) _).alloc (by simp) _).alloc (by simp; omega) _).alloc (by simp; omega) _⟩

theorem same_at {a a2 : Option Addr} {n cap n2 cap2 p q : Nat} {inc jnc : Int} {zs ys : List Int} {E : Nat → Option Int} (h : EForm zs p inc E) (k : EForm ys q jnc E) (w : World) (h1 : RowZ w a n cap zs) (h2 : RowZ w a2 n2 cap2 ys) :
    Calls Try.prog 19 #[curV a n cap p inc, curV a2 n2 cap2 q jnc] w (Says (.bool true) w) := by
  refine rsame_any a n cap zs p inc a2 n2 cap2 ys q jnc true ?_ w h1 h2
  obtain ⟨rfl, rfl, rfl⟩ := h.unique k
  exact sameB_iff.2 ⟨rfl, rfl, rfl⟩

theorem EForm.good {zs : List Int} {p : Nat} {inc : Int} {E : Nat → Option Int} (h : EForm zs p inc E) : Good zs p inc := h.1
theorem EForm.val {zs : List Int} {p : Nat} {inc : Int} {E : Nat → Option Int} (h : EForm zs p inc E) : ∀ t, eC zs p inc t = E t := h.2.1

theorem EForm.at {zs : List Int} {p : Nat} {inc : Int} {E : Nat → Option Int} (h : EForm zs p inc E) {t : Nat} {x : Int} (hx : E t = some x) : atC zs p inc t = x := by
  rw [← enc_eC, h.2.1, hx]; rfl

end Go.Proofs.Ytknimlpdpgpliaa
