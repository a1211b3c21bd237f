/- What the walks of ServiceNumbers and ServiceMakes share: law12's ratio, lists of paces, an array of four lists. By the verifier's side. -/
import Derived.Test.YtjipmkgnndldpaaEBkJ
import Derived.Test.YtjipmkgnndldpaaESvHSvISvV
import Derived.Test.YtjipmkgnndldpaaESvRSvTSvUSvX
import Derived.Test.YtjipmkgnndldpaaEDevMSvP
import Derived.Test.YtjipmkgnndldpaaESvS
import Derived.Deep.RegionHeld3
namespace Go.Proofs.Ytjipmkgnndldpaa
open Go.RowKit
set_option linter.unusedSimpArgs false
set_option linter.unusedVariables false

set_option maxHeartbeats 1600000 in
theorem lratio12_any (b : Nat) (a : Option Addr) (n cap : Nat) (w : World) (h : SrcAt w b a n cap) :
    Calls Try.prog 20 #[.pointer (some ⟨b, 0, none⟩)] w (Fracs (fun x y => In64 x ∧ In64 y) b a n cap w) := by
  have HS := Lib.hid h
  have hlt := h.lt
  clear h
  have hne : ¬ w.heap.size = b := Nat.ne_of_gt hlt
  go_enter Try.func20, Try.ntmps20
  go_wp2_with fail
  refine (n_any 7 (by omega) (by omega) b a n cap _ (HS.out.under ((Below.refl _ _).alloc (Nat.le_refl _) _))).mono ?_
  rintro e w1 ⟨r, hr, rfl, hs, he⟩
  have HS1 := Lib.hid hs
  have HA1 := Lib.hid (((Apart.refl b w).alloc (.cells #[.int .i64 0, .int .i64 0] 23)).trans he.apart)
  have BR := Lib.hid ((Box.new w 0 0 23).else he hne)
  clear hs he
  by_cases r0 : r = 0
  · subst r0
    go_wp2_with fail
    refine (ratio_any b a n cap _ HS1.out).mono ?_
    rintro e w2 ⟨x, y, hxy, rfl, hs, he⟩
    have HS3 := Lib.hid hs
    have HA3 := Lib.hid (HA1.out.trans he)
    obtain ⟨c0, c1, f0, f1⟩ := BR.out.apart he hne
    have HXY := Lib.hid hxy
    clear hs he hxy
    go_wp2_with fail
    refine bodyPost_ret (v := .agg #[.int .i64 x, .int .i64 y]) (by simp [results, Try.results20, go_sem, c0, c1, f0, f1]) rfl ?_
    have HA := (HA3.out.setNew (p := ⟨w.heap.size, 0, none⟩) (Nat.le_refl _) (.int .i64 x)).setNew (p := ⟨w.heap.size, 1, none⟩) (Nat.le_refl _) (.int .i64 y)
    refine ⟨x, y, HXY.out, rfl, SrcAt.mk2 HS.out HA ?_, HA⟩
    obtain ⟨k, hk, hb⟩ := HS3.out.src
    refine ⟨k, hk, ?_⟩
    rw [Below.heap_setCell _ _ _ _ (Ne.symm hne), Below.heap_setCell _ _ _ _ (Ne.symm hne)]
    exact hb
  · have t0 : (r == 0) = false := by simpa using r0
    have hbl := HS1.out.lt
    go_wp2_with fail
    refine (pick_of (fun z => 1 ≤ z ∧ z ≤ 121) (fun z hz => ⟨by omega, by omega⟩) w1.heap.size 6 6 (by omega) (by omega) b (Nat.ne_of_gt hbl) a n cap _ (HS1.out.under ((Below.refl _ _).alloc (Nat.le_refl _) _))
      (list_newP _ w1 [1, 3, 7, 60, 120, 121] 3 (by decide))).mono ?_
    rintro e w2 ⟨z, hz, rfl, hs, ha⟩
    have HS2 := Lib.hid hs
    have HA2 := Lib.hid ((HA1.out.alloc (.cells #[.int .i64 1, .int .i64 3, .int .i64 7, .int .i64 60, .int .i64 120, .int .i64 121] 3)).trans ha)
    have BR2 := Lib.hid ((BR.out.alloc (.cells #[.int .i64 1, .int .i64 3, .int .i64 7, .int .i64 60, .int .i64 120, .int .i64 121] 3)).apart ha hne)
    have HZ := Lib.hid hz
    clear hs ha hz
    go_wp2_with fail
    refine (frac_any 12 z (by have := HZ.out; omega) (by have := HZ.out; omega) (by have := HZ.out; omega) (by have := HZ.out; omega) b a n cap _ HS2.out).mono ?_
    rintro e w3 ⟨x, y, hxy, rfl, hs, he⟩
    have HS3 := Lib.hid hs
    have HA3 := Lib.hid (HA2.out.trans he)
    obtain ⟨c0, c1, f0, f1⟩ := BR2.out.apart he hne
    have HXY := Lib.hid (show In64 x ∧ In64 y by have := HZ.out; exact ⟨⟨by omega, by omega⟩, ⟨by omega, by omega⟩⟩)
    clear hs he hxy
    go_wp2_with fail
    refine bodyPost_ret (v := .agg #[.int .i64 x, .int .i64 y]) (by simp [results, Try.results20, go_sem, c0, c1, f0, f1]) rfl ?_
    have HA := (HA3.out.setNew (p := ⟨w.heap.size, 0, none⟩) (Nat.le_refl _) (.int .i64 x)).setNew (p := ⟨w.heap.size, 1, none⟩) (Nat.le_refl _) (.int .i64 y)
    refine ⟨x, y, HXY.out, rfl, SrcAt.mk2 HS.out HA ?_, HA⟩
    obtain ⟨k, hk, hb⟩ := HS3.out.src
    refine ⟨k, hk, ?_⟩
    rw [Below.heap_setCell _ _ _ _ (Ne.symm hne), Below.heap_setCell _ _ _ _ (Ne.symm hne)]
    exact hb

section
variable {b : Nat} {u v : World} {A : Option Addr} {n cap : Nat}
theorem IsB.chain (h : IsB b u A n cap) : ∃ r : Pk, (∀ v, Below u.heap.size u v → Calls Try.prog 26 #[.slice A n cap] v (GivesPk r v)) ∧
    ∀ v, Below u.heap.size u v → Calls Try.prog 27 #[.slice A n cap] v (GivesPk r v) := by
  rcases h with rfl | ⟨B, off, bs, rfl, h2, h3, h4, h5, h6⟩
  · exact ⟨chainA [], fun v _ => chainC_nil A cap v, fun v _ => rchainC_nil A cap v⟩
  · exact ⟨chainA bs, fun v hv => chainC B off n cap bs h2 h3 h4 v (h6.under hv), fun v hv => rchainC B off n cap bs h2 h3 h4 v (h6.under hv)⟩
theorem IsB.best (h : IsB b u A n cap) : ∃ r : Rs, (∀ v, Below u.heap.size u v → Calls Try.prog 24 #[.slice A n cap] v (GivesCE r.zs r.p r.inc r.c v)) ∧
    ∀ v, Below u.heap.size u v → Calls Try.prog 25 #[.slice A n cap] v (GivesCE r.zs r.p r.inc r.c v) := by
  rcases h with rfl | ⟨B, off, bs, rfl, h2, h3, h4, h5, h6⟩
  · exact ⟨bestA [], fun v _ => bestC_nil A cap v, fun v _ => rbestC_nil A cap v⟩
  · exact ⟨bestA bs, fun v hv => bestC B off n cap bs h2 h3 h4 v (h6.under hv), fun v hv => rbestC B off n cap bs h2 h3 h4 v (h6.under hv)⟩
end
/-- An array of four lists of paces. -/
def Sb4 (b : Nat) (u : World) (S : Nat) : Prop := ∀ j, j < 4 → ∃ (A : Option Addr) (n cap : Nat), u.cell? ⟨S, j, none⟩ = some (.slice A n cap) ∧ IsB b u A n cap
theorem Sb4.under {b : Nat} {u v : World} {S : Nat} (h : Sb4 b u S) (hb : Below u.heap.size u v) : Sb4 b v S := fun j hj => by
  obtain ⟨A, n, c, h1, h2⟩ := h j hj
  exact ⟨A, n, c, (hb.cell (lt_of_cell h1)).trans h1, h2.under hb⟩
theorem Sb4.apart {b : Nat} {u v : World} {S : Nat} (h : Sb4 b u S) (ha : Apart b u v) (hS : S ≠ b) : Sb4 b v S := fun j hj => by
  obtain ⟨A, n, c, h1, h2⟩ := h j hj
  obtain ⟨k, _⟩ := acell ha
  exact ⟨A, n, c, (k S _ (lt_of_cell h1) hS).trans h1, h2.apart ha⟩
theorem sb4_new {b : Nat} {w : World} {a0 a1 a2 a3 : Option Addr} {n0 c0 n1 c1 n2 c2 n3 c3 : Nat} (h0 : IsB b w a0 n0 c0) (h1 : IsB b w a1 n1 c1) (h2 : IsB b w a2 n2 c2) (h3 : IsB b w a3 n3 c3) (t : TypeId) :
    Sb4 b (w.alloc (.cells #[.slice a0 n0 c0, .slice a1 n1 c1, .slice a2 n2 c2, .slice a3 n3 c3] t)) w.heap.size := fun j hj => by
  have hb : Below w.heap.size w (w.alloc (.cells #[.slice a0 n0 c0, .slice a1 n1 c1, .slice a2 n2 c2, .slice a3 n3 c3] t)) := (Below.refl _ _).alloc (Nat.le_refl _) _
  have hj4 : j = 0 ∨ j = 1 ∨ j = 2 ∨ j = 3 := by omega
  rcases hj4 with rfl | rfl | rfl | rfl
  · exact ⟨_, _, _, by go_simp, h0.under hb⟩
  · exact ⟨_, _, _, by go_simp, h1.under hb⟩
  · exact ⟨_, _, _, by go_simp, h2.under hb⟩
  · exact ⟨_, _, _, by go_simp, h3.under hb⟩
def VM4 (b : Nat) (t : Value) (u : World) : Prop := ∃ T : Nat, t = .slice (some ⟨T, 0, none⟩) 4 4 ∧ T ≠ b ∧ Sb4 b u T
theorem VM4.apart {b : Nat} {t : Value} {u v : World} (h : VM4 b t u) (ha : Apart b u v) : VM4 b t v := by
  obtain ⟨A, h1, h2, h3⟩ := h
  exact ⟨A, h1, h2, h3.apart ha h2⟩
/-- The first list, as a value. -/
def VA (b : Nat) (A : Option Addr) (n cap : Nat) (t : Value) (u : World) : Prop := t = .slice A n cap ∧ IsB b u A n cap
theorem VA.apart {b : Nat} {A : Option Addr} {n cap : Nat} {t : Value} {u v : World} (h : VA b A n cap t u) (ha : Apart b u v) : VA b A n cap t v := ⟨h.1, h.2.apart ha⟩

/-- The cells of three structs of four cells, and the reader. -/
abbrev SB3 (w6 : World) (b : Nat) (ra : Option Addr) (rn rc B C D : Nat) (x0 x1 x2 x3 y0 y1 y2 y3 z0 z1 z2 z3 : Int) (u : World) : Prop :=
  u.cell? ⟨B, 0, none⟩ = some (.int .i64 x0) ∧ u.cell? ⟨B, 1, none⟩ = some (.int .i64 x1) ∧ u.cell? ⟨B, 2, none⟩ = some (.int .i64 x2) ∧ u.cell? ⟨B, 3, none⟩ = some (.int .i64 x3) ∧
  u.cell? ⟨C, 0, none⟩ = some (.int .i64 y0) ∧ u.cell? ⟨C, 1, none⟩ = some (.int .i64 y1) ∧ u.cell? ⟨C, 2, none⟩ = some (.int .i64 y2) ∧ u.cell? ⟨C, 3, none⟩ = some (.int .i64 y3) ∧
  u.cell? ⟨D, 0, none⟩ = some (.int .i64 z0) ∧ u.cell? ⟨D, 1, none⟩ = some (.int .i64 z1) ∧ u.cell? ⟨D, 2, none⟩ = some (.int .i64 z2) ∧ u.cell? ⟨D, 3, none⟩ = some (.int .i64 z3) ∧ Hid (Held w6 b ra rn rc u)
theorem sb3_mk {w6 : World} {b : Nat} {ra : Option Addr} {rn rc B C D : Nat} {x0 x1 x2 x3 y0 y1 y2 y3 z0 z1 z2 z3 : Int} {u : World} (h1 : Bk4 w6 B x0 x1 x2 x3) (k1 : B ≠ b) (h2 : Bk4 w6 C y0 y1 y2 y3) (k2 : C ≠ b) (h3 : Bk4 w6 D z0 z1 z2 z3) (k3 : D ≠ b) (h : Held w6 b ra rn rc u) : SB3 w6 b ra rn rc B C D x0 x1 x2 x3 y0 y1 y2 y3 z0 z1 z2 z3 u := by
  have a1 := h1.apart h.ap k1
  have a2 := h2.apart h.ap k2
  have a3 := h3.apart h.ap k3
  exact ⟨a1.c0, a1.c1, a1.c2, a1.c3, a2.c0, a2.c1, a2.c2, a2.c3, a3.c0, a3.c1, a3.c2, a3.c3, h⟩
theorem sb3_of {w6 : World} {b : Nat} {ra : Option Addr} {rn rc B C D : Nat} {x0 x1 x2 x3 y0 y1 y2 y3 z0 z1 z2 z3 : Int} {u : World} (h : SB3 w6 b ra rn rc B C D x0 x1 x2 x3 y0 y1 y2 y3 z0 z1 z2 z3 u) : Held w6 b ra rn rc u := h.2.2.2.2.2.2.2.2.2.2.2.2.out

end Go.Proofs.Ytjipmkgnndldpaa

namespace Go.Proofs.Ytjipmkgnndldpaa
open Go.RowKit
set_option linter.unusedSimpArgs false
set_option linter.unusedVariables false

theorem make_rowPc (m : Nat) (hm : m ≤ 1000) (w : World) : (Instr.makeSlice 26 (.int .i64 (m : Int)) (.int .i64 (m : Int))).run Try.prog w = .ok (.slice (some ⟨w.heap.size, 0, none⟩) m m) (w.alloc (.cells (madeCells #[.int .i64 0, .int .i64 0, .int .i64 0, .int .i64 0] (m * 4)) 25)) := by
  have hi : (Try.prog.info? 25).map (fun i => (i.zero, i.size, i.bytes)) = some (some (.agg #[.int .i64 0, .int .i64 0, .int .i64 0, .int .i64 0]), 4, 32) := by kernel_rfl
  obtain ⟨i, hi, hzz⟩ := Option.map_eq_some_iff.1 hi
  simp only [Prod.mk.injEq] at hzz
  obtain ⟨hz, hs, hb⟩ := hzz
  have := run_make (P := Try.prog) w 26 25 i _ Try.underlying26 hi hz .i64 .i64 m m (by omega) (by omega) (by rw [hb]; omega) (by omega)
  rw [hs] at this
  simpa [Value.cells] using this

theorem Pq4.apart {w w' : World} {b p : Nat} {x0 x1 x2 x3 : Int} (h : Pq4 w p x0 x1 x2 x3) (ha : Apart b w w') (hp : p ≠ b) : Pq4 w' p x0 x1 x2 x3 := by
  obtain ⟨k, kf⟩ := acell ha
  have l := h.lt
  exact ⟨(k p _ l hp).trans h.c0, (k p _ l hp).trans h.c1, (k p _ l hp).trans h.c2, (k p _ l hp).trans h.c3, (kf p _ l hp).trans h.f0, (kf p _ l hp).trans h.f1, (kf p _ l hp).trans h.f2, (kf p _ l hp).trans h.f3⟩
theorem Pq4.set23 {w : World} {p : Nat} {x0 x1 x2 x3 : Int} (h : Pq4 w p x0 x1 x2 x3) (y2 y3 : Int) : Pq4 ((w.setCell ⟨p, 2, none⟩ (.int .i64 y2)).setCell ⟨p, 3, none⟩ (.int .i64 y3)) p x0 x1 y2 y3 := by
  obtain ⟨c0, c1, c2, c3, f0, f1, f2, f3⟩ := h
  exact ⟨by go_simp, by go_simp, by go_simp, by go_simp, by go_simp, by go_simp, by go_simp, by go_simp⟩
theorem svrow_four (w : World) (b c d e : Bkt) (t : TypeId) : RowB (w.alloc (.cells #[.int .i64 b.bn, .int .i64 b.bd, .int .i64 b.rn, .int .i64 b.rd, .int .i64 c.bn, .int .i64 c.bd, .int .i64 c.rn, .int .i64 c.rd, .int .i64 d.bn, .int .i64 d.bd, .int .i64 d.rn, .int .i64 d.rd, .int .i64 e.bn, .int .i64 e.bd, .int .i64 e.rn, .int .i64 e.rd] t)) w.heap.size 0 [b, c, d, e] := fun i x hc => by
  rcases i with _ | _ | _ | _ | i
  · cases hc; exact ⟨by go_simp, by go_simp, by go_simp, by go_simp⟩
  · cases hc; exact ⟨by go_simp, by go_simp, by go_simp, by go_simp⟩
  · cases hc; exact ⟨by go_simp, by go_simp, by go_simp, by go_simp⟩
  · cases hc; exact ⟨by go_simp, by go_simp, by go_simp, by go_simp⟩
  · simp at hc
/-- The cells of two structs of four cells, and the reader. -/
abbrev SC2 (w6 : World) (b : Nat) (ra : Option Addr) (rn rc B C : Nat) (x0 x1 x2 x3 y0 y1 y2 y3 : Int) (u : World) : Prop :=
  u.cell? ⟨B, 0, none⟩ = some (.int .i64 x0) ∧ u.cell? ⟨B, 1, none⟩ = some (.int .i64 x1) ∧ u.cell? ⟨B, 2, none⟩ = some (.int .i64 x2) ∧ u.cell? ⟨B, 3, none⟩ = some (.int .i64 x3) ∧
  u.cell? ⟨C, 0, none⟩ = some (.int .i64 y0) ∧ u.cell? ⟨C, 1, none⟩ = some (.int .i64 y1) ∧ u.cell? ⟨C, 2, none⟩ = some (.int .i64 y2) ∧ u.cell? ⟨C, 3, none⟩ = some (.int .i64 y3) ∧ Hid (Held w6 b ra rn rc u)
theorem sc2_mk {w6 : World} {b : Nat} {ra : Option Addr} {rn rc B C : Nat} {x0 x1 x2 x3 y0 y1 y2 y3 : Int} {u : World} (h1 : Bk4 w6 B x0 x1 x2 x3) (k1 : B ≠ b) (h2 : Bk4 w6 C y0 y1 y2 y3) (k2 : C ≠ b) (h : Held w6 b ra rn rc u) : SC2 w6 b ra rn rc B C x0 x1 x2 x3 y0 y1 y2 y3 u := by
  have a1 := h1.apart h.ap k1
  have a2 := h2.apart h.ap k2
  exact ⟨a1.c0, a1.c1, a1.c2, a1.c3, a2.c0, a2.c1, a2.c2, a2.c3, h⟩
theorem sc2_of {w6 : World} {b : Nat} {ra : Option Addr} {rn rc B C : Nat} {x0 x1 x2 x3 y0 y1 y2 y3 : Int} {u : World} (h : SC2 w6 b ra rn rc B C x0 x1 x2 x3 y0 y1 y2 y3 u) : Held w6 b ra rn rc u := h.2.2.2.2.2.2.2.2.out

end Go.Proofs.Ytjipmkgnndldpaa
