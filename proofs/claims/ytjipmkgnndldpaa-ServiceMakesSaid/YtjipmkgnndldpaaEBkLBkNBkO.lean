/- What Least answers, of a list of buckets: each Token and the Minimum of the result so far and the next one. By the verifier's side. -/
import Derived.Test.YtjipmkgnndldpaaEBkG
import Derived.Test.YtjipmkgnndldpaaECloR
namespace Go.Proofs.Ytjipmkgnndldpaa
open Go.RowKit
set_option linter.unusedSimpArgs false
set_option linter.unusedVariables false

/-- What Minimum answers, of two valid curves. -/
def MinIs (z1 : List Int) (p1 : Nat) (i1 : Int) (z2 : List Int) (p2 : Nat) (i2 : Int) (zs : List Int) (p inc c : Int) : Prop :=
  ∃ L, LcmN z1 p1 i1 z2 p2 i2 L ∧ ((L ≤ 120 ∧ EIs (eMin z1 p1 i1 z2 p2 i2) zs p inc c) ∨ (120 < L ∧ c = 3 ∧ zs = [] ∧ p = 0 ∧ inc = 0))
/-- A bucket, and an answer. -/
structure Bkt where
  bn : Int
  bd : Int
  rn : Int
  rd : Int
structure Rs where
  zs : List Int
  p : Int
  inc : Int
  c : Int
instance : Inhabited Bkt := ⟨⟨0, 0, 0, 0⟩⟩
def Bkt.ok (b : Bkt) : Bool := okB b.bn b.bd && okB b.rn b.rd
/-- A curve that is valid, or the zero curve and an error. -/
def Rs.ok (r : Rs) : Prop := (r.c = 0 ∧ ∃ q : Nat, r.p = q ∧ Good r.zs q r.inc) ∨ (¬ r.c = 0 ∧ r.zs = [] ∧ r.p = 0 ∧ r.inc = 0)
def Rs.Pas (b : Bkt) (r : Rs) : Prop := PasIs b.bn.toNat b.bd.toNat b.rn.toNat b.rd.toNat r.zs r.p r.inc r.c
theorem EIs.okR {E : Nat → Option Int} {zs : List Int} {p inc c : Int} (h : EIs E zs p inc c) : Rs.ok ⟨zs, p, inc, c⟩ := by
  rcases h with ⟨rfl, q, rfl, hf⟩ | ⟨rfl, rfl, rfl, rfl, _⟩
  · exact .inl ⟨rfl, q, rfl, hf.good⟩
  · exact .inr ⟨by show ¬ (3 : Int) = 0; omega, rfl, rfl, rfl⟩
theorem Rs.Pas.ok {b : Bkt} {r : Rs} (h : Rs.Pas b r) : r.ok := by
  rcases h with ⟨_, h⟩ | ⟨_, h1, h2, h3, h4⟩
  · exact h.okR
  · exact .inr ⟨by omega, h2, h3, h4⟩
def Rs.Min (r s t : Rs) : Prop := ∀ (p q : Nat), r.p = p → s.p = q → Good r.zs p r.inc → Good s.zs q s.inc → MinIs r.zs p r.inc s.zs q s.inc t.zs t.p t.inc t.c
theorem Rs.Min.ok {r s t : Rs} (h : Rs.Min r s t) {p q : Nat} (h1 : r.p = p) (h2 : s.p = q) (g1 : Good r.zs p r.inc) (g2 : Good s.zs q s.inc) : t.ok := by
  obtain ⟨L, _, ⟨_, hE⟩ | ⟨_, k1, k2, k3, k4⟩⟩ := h p q h1 h2 g1 g2
  · exact hE.okR
  · exact .inr ⟨by omega, k2, k3, k4⟩

/-- A list of buckets in a block. -/
def RowB (u : World) (B off : Nat) (bs : List Bkt) : Prop :=
  ∀ i b, bs[i]? = some b → u.cell? ⟨B, off + i * 4, none⟩ = some (.int .i64 b.bn) ∧ u.cell? ⟨B, off + i * 4 + 1, none⟩ = some (.int .i64 b.bd) ∧ u.cell? ⟨B, off + i * 4 + 2, none⟩ = some (.int .i64 b.rn) ∧ u.cell? ⟨B, off + i * 4 + 3, none⟩ = some (.int .i64 b.rd)
theorem RowB.under {u v : World} {B off : Nat} {bs : List Bkt} (h : RowB u B off bs) (hb : Below u.heap.size u v) : RowB v B off bs := fun i b hc => by
  obtain ⟨h1, h2, h3, h4⟩ := h i b hc
  exact ⟨(hb.cell (lt_of_cell h1)).trans h1, (hb.cell (lt_of_cell h2)).trans h2, (hb.cell (lt_of_cell h3)).trans h3, (hb.cell (lt_of_cell h4)).trans h4⟩
end Go.Proofs.Ytjipmkgnndldpaa

namespace Go.Proofs.Ytjipmkgnndldpaa
open Go.RowKit
set_option linter.unusedSimpArgs false
set_option linter.unusedVariables false

theorem RowB.at0 {u : World} {B : Nat} {bs : List Bkt} (h : RowB u B 0 bs) {i : Nat} {b : Bkt} (hc : bs[i]? = some b) :
    u.cell? ⟨B, i * 4, none⟩ = some (.int .i64 b.bn) ∧ u.cell? ⟨B, i * 4 + 1, none⟩ = some (.int .i64 b.bd) ∧ u.cell? ⟨B, i * 4 + 2, none⟩ = some (.int .i64 b.rn) ∧ u.cell? ⟨B, i * 4 + 3, none⟩ = some (.int .i64 b.rd) := by
  have := h i b hc
  rwa [Nat.zero_add] at this
def badL (bs : List Bkt) : Bool := bs.any fun b => !b.ok
theorem badL_of {bs : List Bkt} {i : Nat} {b : Bkt} (h : bs[i]? = some b) (hb : b.ok = false) : badL bs = true := by
  unfold badL; rw [List.any_eq_true]
  exact ⟨b, List.mem_of_getElem? h, by rw [hb]; rfl⟩
theorem badL_not {bs : List Bkt} (h : ∀ (i : Nat) (b : Bkt), bs[i]? = some b → b.ok = true) : badL bs = false := by
  unfold badL; rw [List.any_eq_false]
  intro b hb
  obtain ⟨i, hi, he⟩ := List.mem_iff_getElem.1 hb
  have hk : b.ok = true := h i b (by rw [← he]; exact List.getElem?_eq_getElem hi)
  rw [hk]; decide
theorem badL_ok {bs : List Bkt} (h : badL bs = false) {i : Nat} {b : Bkt} (hb : bs[i]? = some b) : b.ok = true := by
  cases hk : b.ok with
  | true => rfl
  | false => rw [badL_of hb hk] at h; cases h
/-! ## lowered -/

end Go.Proofs.Ytjipmkgnndldpaa

namespace Go.Proofs.Ytjipmkgnndldpaa
open Go.RowKit
set_option linter.unusedSimpArgs false
set_option linter.unusedVariables false

theorem RowB.other {u : World} {B off q : Nat} {bs : List Bkt} (h : RowB u B off bs) (hq : B ≠ q) (i : Nat) (v : Value) : RowB (u.setCell ⟨q, i, none⟩ v) B off bs := fun j b hc => by
  have hb : (u.setCell ⟨q, i, none⟩ v).heap[B]? = u.heap[B]? := Below.heap_setCell _ _ _ _ hq
  have hs : ∀ o, (u.setCell ⟨q, i, none⟩ v).cell? ⟨B, o, none⟩ = u.cell? ⟨B, o, none⟩ := fun o => World.cell?_of_block (w := u) (a := ⟨B, o, none⟩) hb
  obtain ⟨h1, h2, h3, h4⟩ := h j b hc
  exact ⟨(hs _).trans h1, (hs _).trans h2, (hs _).trans h3, (hs _).trans h4⟩
/-- The result so far in box L; the function's result is still empty. -/
structure BLs (w wx : World) (L : Nat) (r : Rs) (a : Option Addr) (n cap : Nat) : Prop where
  res : Cur3 wx w.heap.size (.slice none 0 0) (.int .i64 0) (.int .i64 0)
  box : Cur3 wx L (.slice a n cap) (.int .i64 r.p) (.int .i64 r.inc)
  row : RowZ wx a n cap r.zs
  far : ∀ x, a = some x → w.heap.size ≤ x.block ∧ (1 ≤ n → x.block ≠ L ∧ x.block ≠ w.heap.size)
  lt : w.heap.size < L
  below : Below w.heap.size w wx
theorem BLs.call {w u v : World} {L : Nat} {r : Rs} {a : Option Addr} {n cap : Nat} (h : BLs w u L r a n cap) (hb : Below u.heap.size u v) : BLs w v L r a n cap :=
  ⟨h.res.below hb, h.box.below hb, h.row.under hb, h.far, h.lt, h.below.trans (hb.mono h.below.size)⟩
theorem BLs.lay {w u : World} {L : Nat} {r t : Rs} {a a3 : Option Addr} {n cap n3 cap3 : Nat} (h : BLs w u L r a n cap) (hr : RowZ u a3 n3 cap3 t.zs) (hx : ∀ x, a3 = some x → w.heap.size ≤ x.block ∧ (1 ≤ n3 → x.block ≠ L ∧ x.block ≠ w.heap.size)) :
    BLs w (((u.setCell ⟨L, 0, none⟩ (.slice a3 n3 cap3)).setCell ⟨L, 1, none⟩ (.int .i64 t.p)).setCell ⟨L, 2, none⟩ (.int .i64 t.inc)) L t a3 n3 cap3 := by
  have hl := h.lt
  have hne : ∀ x, a3 = some x → 1 ≤ n3 → x.block ≠ L := fun x h1 hn => ((hx x h1).2 hn).1
  exact ⟨((h.res.other (by omega) _ _).other (by omega) _ _).other (by omega) _ _, h.box.set _ _ _, ((hr.store hne _ _).store hne _ _).store hne _ _, hx, hl, below_set3 h.below (by omega) _ _ _⟩
theorem BLs.post {w u : World} {L : Nat} {r : Rs} {a : Option Addr} {n cap : Nat} (h : BLs w u L r a n cap) :
    GivesCE r.zs r.p r.inc r.c w (.returned (.tuple #[curV a n cap r.p r.inc, .int .i64 r.c])) (((u.setCell ⟨w.heap.size, 0, none⟩ (.slice a n cap)).setCell ⟨w.heap.size, 1, none⟩ (.int .i64 r.p)).setCell ⟨w.heap.size, 2, none⟩ (.int .i64 r.inc)) := by
  have hne : ∀ x, a = some x → 1 ≤ n → x.block ≠ w.heap.size := fun x h1 hn => ((h.far x h1).2 hn).2
  exact ⟨a, n, cap, rfl, below_set3 h.below (Nat.le_refl _) _ _ _, ((h.row.store hne _ _).store hne _ _).store hne _ _, fun x h1 => (h.far x h1).1⟩

end Go.Proofs.Ytjipmkgnndldpaa
