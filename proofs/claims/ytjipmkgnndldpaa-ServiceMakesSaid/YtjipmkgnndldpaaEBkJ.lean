/- Lists of staircases, of buckets and of lists of buckets. By the verifier's side. -/
import Derived.Test.YtjipmkgnndldpaaEBkUBkC
import Derived.Test.YtjipmkgnndldpaaEBkSBkH
import Derived.Test.YtjipmkgnndldpaaERegI
namespace Go.Proofs.Ytjipmkgnndldpaa
open Go.RowKit
set_option linter.unusedSimpArgs false
set_option linter.unusedVariables false

theorem sameB_me (zs : List Int) (p inc : Int) : sameB zs p inc zs p inc = true := by unfold sameB; simp
theorem made_four (z : Value) (m : Nat) : madeCells #[z, z, z, z] m = madeCells #[z] m := by
  unfold madeCells
  congr 1
  funext i
  have h1 : i % 4 < 4 := Nat.mod_lt _ (by omega)
  have e : ∀ j, j < 4 → (#[z, z, z, z] : Array Value)[j]! = z := fun j hj => by
    have : j = 0 ∨ j = 1 ∨ j = 2 ∨ j = 3 := by omega
    rcases this with rfl | rfl | rfl | rfl <;> rfl
  show (#[z, z, z, z] : Array Value)[i % 4]! = (#[z] : Array Value)[i % 1]!
  rw [e _ h1, Nat.mod_one]; rfl
/-- A row of numbers in a block: of buckets, four each. -/
abbrev LstB (G N : Nat) (u : World) : Prop := Lst (fun _ => True) G (N * 4) u
theorem LstB.make (w : World) (N : Nat) (t : TypeId) : LstB w.heap.size N (w.alloc (.cells (madeCells #[.int .i64 0, .int .i64 0, .int .i64 0, .int .i64 0] (N * 4)) t)) := by
  rw [made_four]
  refine ⟨fun i hi => ⟨0, ?_, trivial⟩, fun i hi => ?_⟩
  · rw [World.cell?_alloc_new]; simp [madeCells, hi, Nat.mod_one]
  · exact World.frozen?_alloc_at _ _ _ _ rfl
theorem LstB.four {G N : Nat} {u : World} (h : LstB G N u) {i : Nat} (hi : i < N) : ∃ x0 x1 x2 x3 : Int, u.cell? ⟨G, i * 4, none⟩ = some (.int .i64 x0) ∧ u.cell? ⟨G, i * 4 + 1, none⟩ = some (.int .i64 x1) ∧ u.cell? ⟨G, i * 4 + 2, none⟩ = some (.int .i64 x2) ∧ u.cell? ⟨G, i * 4 + 3, none⟩ = some (.int .i64 x3) ∧
    u.frozen? ⟨G, i * 4, none⟩ = false ∧ u.frozen? ⟨G, i * 4 + 1, none⟩ = false ∧ u.frozen? ⟨G, i * 4 + 2, none⟩ = false ∧ u.frozen? ⟨G, i * 4 + 3, none⟩ = false := by
  obtain ⟨x0, h0, _⟩ := h.cell (i * 4) (by omega)
  obtain ⟨x1, h1, _⟩ := h.cell (i * 4 + 1) (by omega)
  obtain ⟨x2, h2, _⟩ := h.cell (i * 4 + 2) (by omega)
  obtain ⟨x3, h3, _⟩ := h.cell (i * 4 + 3) (by omega)
  exact ⟨x0, x1, x2, x3, h0, h1, h2, h3, h.free _ (by omega), h.free _ (by omega), h.free _ (by omega), h.free _ (by omega)⟩
theorem LstB.list {G : Nat} {u : World} : ∀ {N : Nat}, LstB G N u → ∃ bs : List Bkt, bs.length = N ∧ RowC u G 0 bs
  | 0, _ => ⟨[], rfl, fun i b hc => by cases hc⟩
  | N + 1, h => by
    obtain ⟨bs, hl, hr⟩ := LstB.list (N := N) (u := u) ⟨fun i hi => h.cell i (by omega), fun i hi => h.free i (by omega)⟩
    obtain ⟨x0, x1, x2, x3, h0, h1, h2, h3, _⟩ := h.four (Nat.lt_succ_self N)
    refine ⟨bs ++ [⟨x0, x1, x2, x3⟩], by simp [hl], fun i b hc => ?_⟩
    by_cases hi : i < bs.length
    · rw [List.getElem?_append_left hi] at hc; exact hr i b hc
    · have hi2 : i < (bs ++ [(⟨x0, x1, x2, x3⟩ : Bkt)]).length := (List.getElem?_eq_some_iff.1 hc).1
      obtain rfl : i = N := by simp at hi2; omega
      rw [show i = bs.length from hl.symm] at hc
      simp at hc
      subst hc
      rw [Nat.zero_add]
      exact ⟨h0, h1, h2, h3⟩

/-- A list of buckets that Least may be asked of: it is empty, or it leads to its buckets; not into block b. -/
def IsB (b : Nat) (u : World) (A : Option Addr) (n cap : Nat) : Prop :=
  n = 0 ∨ ∃ (B off : Nat) (bs : List Bkt), A = some ⟨B, off, none⟩ ∧ bs.length = n ∧ n ≤ 1000 ∧ n ≤ cap ∧ B ≠ b ∧ RowC u B off bs
section
variable {b : Nat} {u v : World} {A : Option Addr} {n cap : Nat}
theorem IsB.under (h : IsB b u A n cap) (hb : Below u.heap.size u v) : IsB b v A n cap := by
  rcases h with h | ⟨B, off, bs, h1, h2, h3, h4, h5, h6⟩
  · exact .inl h
  · exact .inr ⟨B, off, bs, h1, h2, h3, h4, h5, h6.under hb⟩
theorem IsB.apart (h : IsB b u A n cap) (ha : Apart b u v) : IsB b v A n cap := by
  rcases h with h | ⟨B, off, bs, h1, h2, h3, h4, h5, h6⟩
  · exact .inl h
  · exact .inr ⟨B, off, bs, h1, h2, h3, h4, h5, h6.apart ha h5⟩
theorem IsB.block {B : Nat} {bs : List Bkt} (h : RowC u B 0 bs) (hB : B ≠ b) (hl : bs.length = n) (h1 : n ≤ 1000) (h2 : n ≤ cap) : IsB b u (some ⟨B, 0, none⟩) n cap := .inr ⟨B, 0, bs, rfl, hl, h1, h2, hB, h⟩
end
theorem rowC_one (w : World) (b : Bkt) (t : TypeId) : RowC (w.alloc (.cells #[.int .i64 b.bn, .int .i64 b.bd, .int .i64 b.rn, .int .i64 b.rd] t)) w.heap.size 0 [b] := fun i e hc => by
  rcases i with _ | i
  · cases hc; exact ⟨by go_simp, by go_simp, by go_simp, by go_simp⟩
  · simp at hc
theorem rowC_two (w : World) (b c : Bkt) (t : TypeId) : RowC (w.alloc (.cells #[.int .i64 b.bn, .int .i64 b.bd, .int .i64 b.rn, .int .i64 b.rd, .int .i64 c.bn, .int .i64 c.bd, .int .i64 c.rn, .int .i64 c.rd] t)) w.heap.size 0 [b, c] := fun i e hc => by
  rcases i with _ | _ | i
  · cases hc; exact ⟨by go_simp, by go_simp, by go_simp, by go_simp⟩
  · cases hc; exact ⟨by go_simp, by go_simp, by go_simp, by go_simp⟩
  · simp at hc
/-- An array of five lists of buckets. -/
def Sb5 (b : Nat) (u : World) (S : Nat) : Prop := ∀ j, j < 5 → ∃ (A : Option Addr) (n cap : Nat), u.cell? ⟨S, j, none⟩ = some (.slice A n cap) ∧ IsB b u A n cap
theorem Sb5.under {b : Nat} {u v : World} {S : Nat} (h : Sb5 b u S) (hb : Below u.heap.size u v) : Sb5 b v S := fun j hj => by
  obtain ⟨A, n, c, h1, h2⟩ := h j hj
  exact ⟨A, n, c, (hb.cell (lt_of_cell h1)).trans h1, h2.under hb⟩
theorem Sb5.apart {b : Nat} {u v : World} {S : Nat} (h : Sb5 b u S) (ha : Apart b u v) (hS : S ≠ b) : Sb5 b v S := fun j hj => by
  obtain ⟨A, n, c, h1, h2⟩ := h j hj
  obtain ⟨k, _⟩ := acell ha
  exact ⟨A, n, c, (k S _ (lt_of_cell h1) hS).trans h1, h2.apart ha⟩
theorem sb5_new {b : Nat} {w : World} {a0 a1 a2 a3 a4 : Option Addr} {n0 c0 n1 c1 n2 c2 n3 c3 n4 c4 : Nat} (h0 : IsB b w a0 n0 c0) (h1 : IsB b w a1 n1 c1) (h2 : IsB b w a2 n2 c2) (h3 : IsB b w a3 n3 c3) (h4 : IsB b w a4 n4 c4) (t : TypeId) :
    Sb5 b (w.alloc (.cells #[.slice a0 n0 c0, .slice a1 n1 c1, .slice a2 n2 c2, .slice a3 n3 c3, .slice a4 n4 c4] t)) w.heap.size := fun j hj => by
  have hb : Below w.heap.size w (w.alloc (.cells #[.slice a0 n0 c0, .slice a1 n1 c1, .slice a2 n2 c2, .slice a3 n3 c3, .slice a4 n4 c4] t)) := (Below.refl _ _).alloc (Nat.le_refl _) _
  have hj4 : j = 0 ∨ j = 1 ∨ j = 2 ∨ j = 3 ∨ j = 4 := by omega
  rcases hj4 with rfl | rfl | rfl | rfl | rfl
  · exact ⟨_, _, _, by go_simp, h0.under hb⟩
  · exact ⟨_, _, _, by go_simp, h1.under hb⟩
  · exact ⟨_, _, _, by go_simp, h2.under hb⟩
  · exact ⟨_, _, _, by go_simp, h3.under hb⟩
  · exact ⟨_, _, _, by go_simp, h4.under hb⟩
/-- A list of buckets, as a value. -/
def VB (b : Nat) (n : Nat) (t : Value) (u : World) : Prop := ∃ A : Option Addr, t = .slice A n n ∧ IsB b u A n n
theorem VB.apart {b n : Nat} {t : Value} {u v : World} (h : VB b n t u) (ha : Apart b u v) : VB b n t v := by
  obtain ⟨A, h1, h2⟩ := h
  exact ⟨A, h1, h2.apart ha⟩
def VF (t : Value) : Prop := ∃ x y : Int, t = .agg #[.int .i64 x, .int .i64 y]
def VK (t : Value) : Prop := ∃ x y z v : Int, t = .agg #[.int .i64 x, .int .i64 y, .int .i64 z, .int .i64 v]
def VM (b : Nat) (t : Value) (u : World) : Prop := ∃ T : Nat, t = .slice (some ⟨T, 0, none⟩) 5 5 ∧ T ≠ b ∧ Sb5 b u T
theorem VM.apart {b : Nat} {t : Value} {u v : World} (h : VM b t u) (ha : Apart b u v) : VM b t v := by
  obtain ⟨A, h1, h2, h3⟩ := h
  exact ⟨A, h1, h2, h3.apart ha h2⟩

end Go.Proofs.Ytjipmkgnndldpaa
