/- Lists of staircases, of buckets and of lists of buckets. By the verifier's side. -/
import Derived.Test.YtjipmkgnndldpaaFBkUBkC
import Derived.Test.YtjipmkgnndldpaaFBkSBkH
import Derived.Test.YtjipmkgnndldpaaFRegI
import Derived.Test.YtjipmkgnndldpaaFBkN
import Derived.Deep.RegionHeld3
namespace Go.Proofs.Ytjipmkgnndldpaa
open Go.RowKit
set_option linter.unusedSimpArgs false
set_option linter.unusedVariables false

theorem sameB_me (zs : List Int) (p inc : Int) : sameB zs p inc zs p inc = true := by unfold sameB; simp
theorem make_rowB (m : Nat) (hm : m ≤ 1000) (w : World) : (Instr.makeSlice 49 (.int .i64 (m : Int)) (.int .i64 (m : Int))).run Try.prog w = .ok (.slice (some ⟨w.heap.size, 0, none⟩) m m) (w.alloc (.cells (madeCells #[.int .i64 0, .int .i64 0, .int .i64 0, .int .i64 0] (m * 4)) 46)) := by
  have hi : (Try.prog.info? 46).map (fun i => (i.zero, i.size, i.bytes)) = some (some (.agg #[.int .i64 0, .int .i64 0, .int .i64 0, .int .i64 0]), 4, 32) := by kernel_rfl
  obtain ⟨i, hi, hzz⟩ := Option.map_eq_some_iff.1 hi
  simp only [Prod.mk.injEq] at hzz
  obtain ⟨hz, hs, hb⟩ := hzz
  have := run_make (P := Try.prog) w 49 46 i _ Try.underlying49 hi hz .i64 .i64 m m (by omega) (by omega) (by rw [hb]; omega) (by omega)
  rw [hs] at this
  simpa [Value.cells] using this
theorem made_four (z : Value) (m : Nat) : madeCells #[z, z, z, z] m = madeCells #[z] m := by
  unfold madeCells
  congr 1
  funext i
  have h1 : i % 4 < 4 := Nat.mod_lt _ (by omega)
  have e : ∀ j, j < 4 → (#[z, z, z, z] : Array Value)[j]! = z := fun j hj => by
    have : j = 0 ∨ j = 1 ∨ j = 2 ∨ j = 3 := by omega
    rcases this with rfl | rfl | rfl | rfl <;> rfl
  show (#[z, z, z, z] : Array Value)[i % 4]! = (#[z] : Array Value)[i % 1]!
  rw [e _ h1, Nat.mod_one]; rfl
/-- A row of numbers in a block: of buckets, four each. -/
abbrev LstB (G N : Nat) (u : World) : Prop := Lst (fun _ => True) G (N * 4) u
theorem LstB.make (w : World) (N : Nat) (t : TypeId) : LstB w.heap.size N (w.alloc (.cells (madeCells #[.int .i64 0, .int .i64 0, .int .i64 0, .int .i64 0] (N * 4)) t)) := by
  rw [made_four]
  refine ⟨fun i hi => ⟨0, ?_, trivial⟩, fun i hi => ?_⟩
  · rw [World.cell?_alloc_new]; simp [madeCells, hi, Nat.mod_one]
  · exact World.frozen?_alloc_at _ _ _ _ rfl
theorem LstB.four {G N : Nat} {u : World} (h : LstB G N u) {i : Nat} (hi : i < N) : ∃ x0 x1 x2 x3 : Int, u.cell? ⟨G, i * 4, none⟩ = some (.int .i64 x0) ∧ u.cell? ⟨G, i * 4 + 1, none⟩ = some (.int .i64 x1) ∧ u.cell? ⟨G, i * 4 + 2, none⟩ = some (.int .i64 x2) ∧ u.cell? ⟨G, i * 4 + 3, none⟩ = some (.int .i64 x3) ∧
    u.frozen? ⟨G, i * 4, none⟩ = false ∧ u.frozen? ⟨G, i * 4 + 1, none⟩ = false ∧ u.frozen? ⟨G, i * 4 + 2, none⟩ = false ∧ u.frozen? ⟨G, i * 4 + 3, none⟩ = false := by
  obtain ⟨x0, h0, _⟩ := h.cell (i * 4) (by omega)
  obtain ⟨x1, h1, _⟩ := h.cell (i * 4 + 1) (by omega)
  obtain ⟨x2, h2, _⟩ := h.cell (i * 4 + 2) (by omega)
  obtain ⟨x3, h3, _⟩ := h.cell (i * 4 + 3) (by omega)
  exact ⟨x0, x1, x2, x3, h0, h1, h2, h3, h.free _ (by omega), h.free _ (by omega), h.free _ (by omega), h.free _ (by omega)⟩
theorem LstB.list {G : Nat} {u : World} : ∀ {N : Nat}, LstB G N u → ∃ bs : List Bkt, bs.length = N ∧ RowC u G 0 bs
  | 0, _ => ⟨[], rfl, fun i b hc => by cases hc⟩
  | N + 1, h => by
    obtain ⟨bs, hl, hr⟩ := LstB.list (N := N) (u := u) ⟨fun i hi => h.cell i (by omega), fun i hi => h.free i (by omega)⟩
    obtain ⟨x0, x1, x2, x3, h0, h1, h2, h3, _⟩ := h.four (Nat.lt_succ_self N)
    refine ⟨bs ++ [⟨x0, x1, x2, x3⟩], by simp [hl], fun i b hc => ?_⟩
    by_cases hi : i < bs.length
    · rw [List.getElem?_append_left hi] at hc; exact hr i b hc
    · have hi2 : i < (bs ++ [(⟨x0, x1, x2, x3⟩ : Bkt)]).length := (List.getElem?_eq_some_iff.1 hc).1
      obtain rfl : i = N := by simp at hi2; omega
      rw [show i = bs.length from hl.symm] at hc
      simp at hc
      subst hc
      rw [Nat.zero_add]
      exact ⟨h0, h1, h2, h3⟩

/-- A list of buckets that Least may be asked of: it is empty, or it leads to its buckets; not into block b. -/
def IsB (b : Nat) (u : World) (A : Option Addr) (n cap : Nat) : Prop :=
  n = 0 ∨ ∃ (B off : Nat) (bs : List Bkt), A = some ⟨B, off, none⟩ ∧ bs.length = n ∧ n ≤ 1000 ∧ n ≤ cap ∧ B ≠ b ∧ RowC u B off bs
section
variable {b : Nat} {u v : World} {A : Option Addr} {n cap : Nat}
theorem IsB.under (h : IsB b u A n cap) (hb : Below u.heap.size u v) : IsB b v A n cap := by
  rcases h with h | ⟨B, off, bs, h1, h2, h3, h4, h5, h6⟩
  · exact .inl h
  · exact .inr ⟨B, off, bs, h1, h2, h3, h4, h5, h6.under hb⟩
theorem IsB.apart (h : IsB b u A n cap) (ha : Apart b u v) : IsB b v A n cap := by
  rcases h with h | ⟨B, off, bs, h1, h2, h3, h4, h5, h6⟩
  · exact .inl h
  · exact .inr ⟨B, off, bs, h1, h2, h3, h4, h5, h6.apart ha h5⟩
theorem IsB.least (h : IsB b u A n cap) : ∃ r : Rs, (∀ v, Below u.heap.size u v → Calls Try.prog 86 #[.slice A n cap] v (GivesCE r.zs r.p r.inc r.c v)) ∧
    ∀ v, Below u.heap.size u v → Calls Try.prog 87 #[.slice A n cap] v (GivesCE r.zs r.p r.inc r.c v) := by
  rcases h with rfl | ⟨B, off, bs, rfl, h2, h3, h4, h5, h6⟩
  · exact ⟨bleastA [], fun v _ => leastC_nil A cap v, fun v _ => rleastC_nil A cap v⟩
  · exact ⟨bleastA bs, fun v hv => leastC B off n cap bs h2 h3 h4 v (h6.under hv), fun v hv => rbleastC B off n cap bs h2 h3 h4 v (h6.under hv)⟩
theorem IsB.block {B : Nat} {bs : List Bkt} (h : RowC u B 0 bs) (hB : B ≠ b) (hl : bs.length = n) (h1 : n ≤ 1000) (h2 : n ≤ cap) : IsB b u (some ⟨B, 0, none⟩) n cap := .inr ⟨B, 0, bs, rfl, hl, h1, h2, hB, h⟩
end
theorem rowC_one (w : World) (b : Bkt) (t : TypeId) : RowC (w.alloc (.cells #[.int .i64 b.bn, .int .i64 b.bd, .int .i64 b.rn, .int .i64 b.rd] t)) w.heap.size 0 [b] := fun i e hc => by
  rcases i with _ | i
  · cases hc; exact ⟨by go_simp, by go_simp, by go_simp, by go_simp⟩
  · simp at hc
theorem rowC_two (w : World) (b c : Bkt) (t : TypeId) : RowC (w.alloc (.cells #[.int .i64 b.bn, .int .i64 b.bd, .int .i64 b.rn, .int .i64 b.rd, .int .i64 c.bn, .int .i64 c.bd, .int .i64 c.rn, .int .i64 c.rd] t)) w.heap.size 0 [b, c] := fun i e hc => by
  rcases i with _ | _ | i
  · cases hc; exact ⟨by go_simp, by go_simp, by go_simp, by go_simp⟩
  · cases hc; exact ⟨by go_simp, by go_simp, by go_simp, by go_simp⟩
  · simp at hc
/-- An array of five lists of buckets. -/
def Sb5 (b : Nat) (u : World) (S : Nat) : Prop := ∀ j, j < 5 → ∃ (A : Option Addr) (n cap : Nat), u.cell? ⟨S, j, none⟩ = some (.slice A n cap) ∧ IsB b u A n cap
theorem Sb5.under {b : Nat} {u v : World} {S : Nat} (h : Sb5 b u S) (hb : Below u.heap.size u v) : Sb5 b v S := fun j hj => by
  obtain ⟨A, n, c, h1, h2⟩ := h j hj
  exact ⟨A, n, c, (hb.cell (lt_of_cell h1)).trans h1, h2.under hb⟩
theorem Sb5.apart {b : Nat} {u v : World} {S : Nat} (h : Sb5 b u S) (ha : Apart b u v) (hS : S ≠ b) : Sb5 b v S := fun j hj => by
  obtain ⟨A, n, c, h1, h2⟩ := h j hj
  obtain ⟨k, _⟩ := acell ha
  exact ⟨A, n, c, (k S _ (lt_of_cell h1) hS).trans h1, h2.apart ha⟩
theorem sb5_new {b : Nat} {w : World} {a0 a1 a2 a3 a4 : Option Addr} {n0 c0 n1 c1 n2 c2 n3 c3 n4 c4 : Nat} (h0 : IsB b w a0 n0 c0) (h1 : IsB b w a1 n1 c1) (h2 : IsB b w a2 n2 c2) (h3 : IsB b w a3 n3 c3) (h4 : IsB b w a4 n4 c4) (t : TypeId) :
    Sb5 b (w.alloc (.cells #[.slice a0 n0 c0, .slice a1 n1 c1, .slice a2 n2 c2, .slice a3 n3 c3, .slice a4 n4 c4] t)) w.heap.size := fun j hj => by
  have hb : Below w.heap.size w (w.alloc (.cells #[.slice a0 n0 c0, .slice a1 n1 c1, .slice a2 n2 c2, .slice a3 n3 c3, .slice a4 n4 c4] t)) := (Below.refl _ _).alloc (Nat.le_refl _) _
  have hj4 : j = 0 ∨ j = 1 ∨ j = 2 ∨ j = 3 ∨ j = 4 := by omega
  rcases hj4 with rfl | rfl | rfl | rfl | rfl
  · exact ⟨_, _, _, by go_simp, h0.under hb⟩
  · exact ⟨_, _, _, by go_simp, h1.under hb⟩
  · exact ⟨_, _, _, by go_simp, h2.under hb⟩
  · exact ⟨_, _, _, by go_simp, h3.under hb⟩
  · exact ⟨_, _, _, by go_simp, h4.under hb⟩
/-- An array of three staircases. -/
def St3 (u : World) (S : Nat) : Prop := ∀ j, j < 3 → ∃ x y z : Int, u.cell? ⟨S, j * 3, none⟩ = some (.int .i64 x) ∧ u.cell? ⟨S, j * 3 + 1, none⟩ = some (.int .i64 y) ∧ u.cell? ⟨S, j * 3 + 2, none⟩ = some (.int .i64 z)
theorem St3.under {u v : World} {S : Nat} (h : St3 u S) (hb : Below u.heap.size u v) : St3 v S := fun j hj => by
  obtain ⟨x, y, z, h1, h2, h3⟩ := h j hj
  exact ⟨x, y, z, (hb.cell (lt_of_cell h1)).trans h1, (hb.cell (lt_of_cell h2)).trans h2, (hb.cell (lt_of_cell h3)).trans h3⟩
theorem St3.apart {b : Nat} {u v : World} {S : Nat} (h : St3 u S) (ha : Apart b u v) (hS : S ≠ b) : St3 v S := fun j hj => by
  obtain ⟨x, y, z, h1, h2, h3⟩ := h j hj
  obtain ⟨k, _⟩ := acell ha
  have l : S < u.heap.size := lt_of_cell h1
  exact ⟨x, y, z, (k S _ l hS).trans h1, (k S _ l hS).trans h2, (k S _ l hS).trans h3⟩
theorem st3_new (w : World) (x0 x1 x2 x3 x4 x5 x6 x7 x8 : Int) (t : TypeId) :
    St3 (w.alloc (.cells #[.int .i64 x0, .int .i64 x1, .int .i64 x2, .int .i64 x3, .int .i64 x4, .int .i64 x5, .int .i64 x6, .int .i64 x7, .int .i64 x8] t)) w.heap.size := fun j hj => by
  have hj4 : j = 0 ∨ j = 1 ∨ j = 2 := by omega
  rcases hj4 with rfl | rfl | rfl
  · exact ⟨x0, x1, x2, by go_simp, by go_simp, by go_simp⟩
  · exact ⟨x3, x4, x5, by go_simp, by go_simp, by go_simp⟩
  · exact ⟨x6, x7, x8, by go_simp, by go_simp, by go_simp⟩
/-- A list of five numbers, not in block b. -/
def VL (b : Nat) (t : Value) (u : World) : Prop := ∃ G : Nat, t = .slice (some ⟨G, 0, none⟩) 5 5 ∧ G ≠ b ∧ ∀ i, i < 5 → ∃ z, u.cell? ⟨G, i, none⟩ = some (.int .i64 z) ∧ In64 z
theorem VL.apart {b : Nat} {t : Value} {u v : World} (h : VL b t u) (ha : Apart b u v) : VL b t v := by
  obtain ⟨G, h1, h2, h3⟩ := h
  obtain ⟨k, _⟩ := acell ha
  exact ⟨G, h1, h2, fun i hi => by
    obtain ⟨z, hz, hi⟩ := h3 i hi
    exact ⟨z, (k G _ (lt_of_cell hz) h2).trans hz, hi⟩⟩
/-- A list of buckets, as a value. -/
def VB (b : Nat) (n : Nat) (t : Value) (u : World) : Prop := ∃ A : Option Addr, t = .slice A n n ∧ IsB b u A n n
theorem VB.apart {b n : Nat} {t : Value} {u v : World} (h : VB b n t u) (ha : Apart b u v) : VB b n t v := by
  obtain ⟨A, h1, h2⟩ := h
  exact ⟨A, h1, h2.apart ha⟩
def VI (t : Value) : Prop := ∃ x : Int, t = .int .i64 x
def VF (t : Value) : Prop := ∃ x y : Int, t = .agg #[.int .i64 x, .int .i64 y]
def VS (t : Value) : Prop := ∃ x y z : Int, t = .agg #[.int .i64 x, .int .i64 y, .int .i64 z]
def VK (t : Value) : Prop := ∃ x y z v : Int, t = .agg #[.int .i64 x, .int .i64 y, .int .i64 z, .int .i64 v]
def VT (b : Nat) (t : Value) (u : World) : Prop := ∃ T : Nat, t = .slice (some ⟨T, 0, none⟩) 3 3 ∧ T ≠ b ∧ St3 u T
theorem VT.apart {b : Nat} {t : Value} {u v : World} (h : VT b t u) (ha : Apart b u v) : VT b t v := by
  obtain ⟨A, h1, h2, h3⟩ := h
  exact ⟨A, h1, h2, h3.apart ha h2⟩
def VM (b : Nat) (t : Value) (u : World) : Prop := ∃ T : Nat, t = .slice (some ⟨T, 0, none⟩) 5 5 ∧ T ≠ b ∧ Sb5 b u T
theorem VM.apart {b : Nat} {t : Value} {u v : World} (h : VM b t u) (ha : Apart b u v) : VM b t v := by
  obtain ⟨A, h1, h2, h3⟩ := h
  exact ⟨A, h1, h2, h3.apart ha h2⟩

end Go.Proofs.Ytjipmkgnndldpaa

namespace Go.Proofs.Ytjipmkgnndldpaa
open Go.RowKit
set_option linter.unusedSimpArgs false
set_option linter.unusedVariables false

theorem rowB_three (w : World) (b c d : Bkt) (t : TypeId) : RowB (w.alloc (.cells #[.int .i64 b.bn, .int .i64 b.bd, .int .i64 b.rn, .int .i64 b.rd, .int .i64 c.bn, .int .i64 c.bd, .int .i64 c.rn, .int .i64 c.rd, .int .i64 d.bn, .int .i64 d.bd, .int .i64 d.rn, .int .i64 d.rd] t)) w.heap.size 0 [b, c, d] := fun i e hc => by
  rcases i with _ | _ | _ | i
  · cases hc; exact ⟨by go_simp, by go_simp, by go_simp, by go_simp⟩
  · cases hc; exact ⟨by go_simp, by go_simp, by go_simp, by go_simp⟩
  · cases hc; exact ⟨by go_simp, by go_simp, by go_simp, by go_simp⟩
  · simp at hc
theorem RowB.apart {u v : World} {B off b : Nat} {bs : List Bkt} (h : RowB u B off bs) (ha : Apart b u v) (hB : B ≠ b) : RowB v B off bs := fun i c hc => by
  obtain ⟨h1, h2, h3, h4⟩ := h i c hc
  obtain ⟨k, _⟩ := acell ha
  have l : B < u.heap.size := lt_of_cell h1
  exact ⟨(k B _ l hB).trans h1, (k B _ l hB).trans h2, (k B _ l hB).trans h3, (k B _ l hB).trans h4⟩
set_option maxHeartbeats 1600000 in
theorem lratio_any (b : Nat) (a : Option Addr) (n cap : Nat) (w : World) (h : SrcAt w b a n cap) :
    Calls Try.prog 82 #[.pointer (some ⟨b, 0, none⟩)] w (Fracs (fun x y => In64 x ∧ In64 y) b a n cap w) := by
  have HS := Lib.hid h
  have hlt := h.lt
  clear h
  have hne : ¬ w.heap.size = b := Nat.ne_of_gt hlt
  go_enter Try.func82, Try.ntmps82
  go_wp2_with fail
  refine (n_any 6 (by omega) (by omega) b a n cap _ (HS.out.under ((Below.refl _ _).alloc (Nat.le_refl _) _))).mono ?_
  rintro e w1 ⟨r, hr, rfl, hs, he⟩
  have HS1 := Lib.hid hs
  have HA1 := Lib.hid (((Apart.refl b w).alloc (.cells #[.int .i64 0, .int .i64 0] 23)).trans he.apart)
  have BR := Lib.hid ((Box.new w 0 0 23).else he hne)
  clear hs he
  by_cases r0 : r = 0
  · subst r0
    go_wp2_with fail
    refine (ratio_any b a n cap _ HS1.out).mono ?_
    rintro e w2 ⟨x, y, hxy, rfl, hs, he⟩
    have HS3 := Lib.hid hs
    have HA3 := Lib.hid (HA1.out.trans he)
    obtain ⟨c0, c1, f0, f1⟩ := BR.out.apart he hne
    have HXY := Lib.hid hxy
    clear hs he hxy
    go_wp2_with fail
    refine bodyPost_ret (v := .agg #[.int .i64 x, .int .i64 y]) (by simp [results, Try.results82, go_sem, c0, c1, f0, f1]) rfl ?_
    have HA := (HA3.out.setNew (p := ⟨w.heap.size, 0, none⟩) (Nat.le_refl _) (.int .i64 x)).setNew (p := ⟨w.heap.size, 1, none⟩) (Nat.le_refl _) (.int .i64 y)
    refine ⟨x, y, HXY.out, rfl, SrcAt.mk2 HS.out HA ?_, HA⟩
    obtain ⟨k, hk, hb⟩ := HS3.out.src
    refine ⟨k, hk, ?_⟩
    rw [Below.heap_setCell _ _ _ _ (Ne.symm hne), Below.heap_setCell _ _ _ _ (Ne.symm hne)]
    exact hb
  · have t0 : (r == 0) = false := by simpa using r0
    have hbl := HS1.out.lt
    go_wp2_with fail
    refine (pick_of (fun z => 1 ≤ z ∧ z ≤ 121) (fun z hz => ⟨by omega, by omega⟩) w1.heap.size 6 6 (by omega) (by omega) b (Nat.ne_of_gt hbl) a n cap _ (HS1.out.under ((Below.refl _ _).alloc (Nat.le_refl _) _))
      (list_newP _ w1 [1, 3, 7, 60, 120, 121] 3 (by decide))).mono ?_
    rintro e w2 ⟨z, hz, rfl, hs, ha⟩
    have HS2 := Lib.hid hs
    have HA2 := Lib.hid ((HA1.out.alloc (.cells #[.int .i64 1, .int .i64 3, .int .i64 7, .int .i64 60, .int .i64 120, .int .i64 121] 3)).trans ha)
    have BR2 := Lib.hid ((BR.out.alloc (.cells #[.int .i64 1, .int .i64 3, .int .i64 7, .int .i64 60, .int .i64 120, .int .i64 121] 3)).apart ha hne)
    have HZ := Lib.hid hz
    clear hs ha hz
    go_wp2_with fail
    refine (frac_any 12 z (by have := HZ.out; omega) (by have := HZ.out; omega) (by have := HZ.out; omega) (by have := HZ.out; omega) b a n cap _ HS2.out).mono ?_
    rintro e w3 ⟨x, y, hxy, rfl, hs, he⟩
    have HS3 := Lib.hid hs
    have HA3 := Lib.hid (HA2.out.trans he)
    obtain ⟨c0, c1, f0, f1⟩ := BR2.out.apart he hne
    have HXY := Lib.hid (show In64 x ∧ In64 y by have := HZ.out; exact ⟨⟨by omega, by omega⟩, ⟨by omega, by omega⟩⟩)
    clear hs he hxy
    go_wp2_with fail
    refine bodyPost_ret (v := .agg #[.int .i64 x, .int .i64 y]) (by simp [results, Try.results82, go_sem, c0, c1, f0, f1]) rfl ?_
    have HA := (HA3.out.setNew (p := ⟨w.heap.size, 0, none⟩) (Nat.le_refl _) (.int .i64 x)).setNew (p := ⟨w.heap.size, 1, none⟩) (Nat.le_refl _) (.int .i64 y)
    refine ⟨x, y, HXY.out, rfl, SrcAt.mk2 HS.out HA ?_, HA⟩
    obtain ⟨k, hk, hb⟩ := HS3.out.src
    refine ⟨k, hk, ?_⟩
    rw [Below.heap_setCell _ _ _ _ (Ne.symm hne), Below.heap_setCell _ _ _ _ (Ne.symm hne)]
    exact hb

/-- The first list, as a value. -/
def VAb (b : Nat) (A : Option Addr) (n cap : Nat) (t : Value) (u : World) : Prop := t = .slice A n cap ∧ IsB b u A n cap
theorem VAb.apart {b : Nat} {A : Option Addr} {n cap : Nat} {t : Value} {u v : World} (h : VAb b A n cap t u) (ha : Apart b u v) : VAb b A n cap t v := ⟨h.1, h.2.apart ha⟩
end Go.Proofs.Ytjipmkgnndldpaa
