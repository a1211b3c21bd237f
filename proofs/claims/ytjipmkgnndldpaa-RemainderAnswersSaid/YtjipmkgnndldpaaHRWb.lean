/- A list of six curves at its capacity, with one appended. By the verifier's side. -/
import Derived.Test.YtjipmkgnndldpaaHRWa
import Derived.ArgAppend
namespace Go.Proofs.Ytjipmkgnndldpaa
open Go.RowKit
set_option linter.unusedSimpArgs false
set_option linter.unusedVariables false

theorem wp_append_eq {P : Program} {o : Oper} {a : Act} {w w' : World} {K : Act → World → Prop} {Q : Exit → Act → World → Prop} (s x : Operand) (t : TypeId) (ho : o.op = .call { callee := .builtin .append, args := #[s, x], argTypes := #[t, t] }) (v1 v2 v' : Value) (hs : a.eval s = v1) (hx : a.eval x = v2)
    (hr : (Builtin.append_ #[t, t] o.type #[v1, v2]).run P w = .ok v' w') (h : K (a.put o.dst v') w') : Oper.wp P o a w K Q := by
  unfold Oper.wp execOp
  simp only [ho, resolve, invoke, builtin, Sem.run_bind, Sem.run_pure, Result.andThen_ok, List.map_toArray, List.map_cons, List.map_nil, hs, hx, hr]
  exact h
theorem info_curve6 : ∃ i : TypeInfo, Try.prog.info? 38 = some i ∧ i.zero = some (.agg #[.slice none 0 0, .int .i64 0, .int .i64 0]) ∧ i.size = 3 ∧ i.bytes = 40 := by
  have hi : (Try.prog.info? 38).map (fun i => (i.zero, i.size, i.bytes)) = some (some (.agg #[.slice none 0 0, .int .i64 0, .int .i64 0]), 3, 40) := by kernel_rfl
  obtain ⟨i, hi, hzz⟩ := Option.map_eq_some_iff.1 hi
  simp only [Prod.mk.injEq] at hzz
  exact ⟨i, hi, hzz.1, hzz.2.1, hzz.2.2⟩
theorem cell_new6 {w : World} {cs ds : Array Value} {t : TypeId} {i : Nat} {v : Value} (h : cs[i]? = some v) : (w.drew.alloc (.cells (cs ++ ds) t)).cell? ⟨w.heap.size, i, none⟩ = some v := by
  have hi : i < cs.size := (Array.getElem?_eq_some_iff.1 h).1
  have := cell_new (w := w.drew) (cs := cs ++ ds) (t := t) (i := i) (v := v) (by rw [Array.getElem?_append_left hi]; exact h)
  exact this
set_option maxRecDepth 100000 in
set_option maxHeartbeats 1600000 in
theorem run_append_curves6 (w : World) (b B G : Nat) (HB : Curs w b B 7) (HG : Curs w b G 1) (hbl : b < w.heap.size) :
    ∃ (v' : Value) (w' : World), (Builtin.append_ #[69, 69] 69 #[.slice (some ⟨B, 3, none⟩) 6 6, .slice (some ⟨G, 0, none⟩) 1 1]).run Try.prog w = .ok v' w' ∧
      Below w.heap.size w w' ∧ ∃ (B2 cap2 : Nat), v' = .slice (some ⟨B2, 0, none⟩) 7 cap2 ∧ ¬ B2 = b ∧ 7 ≤ cap2 ∧ Curs w' b B2 7 := by
  obtain ⟨a1, n1, c1, z1, p1, i1, g1, x1, y1, v1⟩ := HB 1 (by omega)
  obtain ⟨a2, n2, c2, z2, p2, i2, g2, x2, y2, v2⟩ := HB 2 (by omega)
  obtain ⟨a3, n3, c3, z3, p3, i3, g3, x3, y3, v3⟩ := HB 3 (by omega)
  obtain ⟨a4, n4, c4, z4, p4, i4, g4, x4, y4, v4⟩ := HB 4 (by omega)
  obtain ⟨a5, n5, c5, z5, p5, i5, g5, x5, y5, v5⟩ := HB 5 (by omega)
  obtain ⟨a6, n6, c6, z6, p6, i6, g6, x6, y6, v6⟩ := HB 6 (by omega)
  obtain ⟨a7, n7, c7, z7, p7, i7, g7, x7, y7, v7⟩ := HG 0 (by omega)
  obtain ⟨i, hi, hz, hs, hbt⟩ := info_curve6
  have h := run_append_grow (P := Try.prog) w 69 69 38 i _ Try.underlying69 hi hz ⟨B, 3, none⟩ 6 6 [.slice a1 n1 c1, .int .i64 p1, .int .i64 i1, .slice a2 n2 c2, .int .i64 p2, .int .i64 i2, .slice a3 n3 c3, .int .i64 p3, .int .i64 i3, .slice a4 n4 c4, .int .i64 p4, .int .i64 i4, .slice a5 n5 c5, .int .i64 p5, .int .i64 i5, .slice a6 n6 c6, .int .i64 p6, .int .i64 i6] (by rw [hs]; rfl)
    (fun j v hj => by
      have hj18 : j < 18 := (List.getElem?_eq_some_iff.1 hj).1
      rw [WideShapes.add_plain]
      rcases j with _ | _ | _ | _ | _ | _ | _ | _ | _ | _ | _ | _ | _ | _ | _ | _ | _ | _ | j
      · cases hj; exact x1
      · cases hj; exact y1
      · cases hj; exact v1
      · cases hj; exact x2
      · cases hj; exact y2
      · cases hj; exact v2
      · cases hj; exact x3
      · cases hj; exact y3
      · cases hj; exact v3
      · cases hj; exact x4
      · cases hj; exact y4
      · cases hj; exact v4
      · cases hj; exact x5
      · cases hj; exact y5
      · cases hj; exact v5
      · cases hj; exact x6
      · cases hj; exact y6
      · cases hj; exact v6
      · omega)
    ⟨G, 0, none⟩ 1 1 [.slice a7 n7 c7, .int .i64 p7, .int .i64 i7] (by rw [hs]; rfl)
    (fun j v hj => by
      have hj3 : j < 3 := (List.getElem?_eq_some_iff.1 hj).1
      rw [WideShapes.add_plain]
      rcases j with _ | _ | _ | j
      · cases hj; exact x7
      · cases hj; exact y7
      · cases hj; exact v7
      · omega)
    (by omega) (by omega) (by rw [hbt]; decide)
  have hge := grownCap_ge w 7 6 38
  have hb' : Below w.heap.size w (w.drew.alloc (.cells ([.slice a1 n1 c1, .int .i64 p1, .int .i64 i1, .slice a2 n2 c2, .int .i64 p2, .int .i64 i2, .slice a3 n3 c3, .int .i64 p3, .int .i64 i3, .slice a4 n4 c4, .int .i64 p4, .int .i64 i4, .slice a5 n5 c5, .int .i64 p5, .int .i64 i5, .slice a6 n6 c6, .int .i64 p6, .int .i64 i6].toArray ++ [.slice a7 n7 c7, .int .i64 p7, .int .i64 i7].toArray ++ Builtin.zeroCells (Value.agg #[.slice none 0 0, .int .i64 0, .int .i64 0]).cells (grownCap w (6 + 1) 6 38 - (6 + 1))) 38)) := (Below.refl _ _).drew.alloc (Nat.le_refl _) _
  refine ⟨_, _, h, hb', w.heap.size, _, rfl, by omega, by omega, fun k hk => ?_⟩
  have hk7 : k = 0 ∨ k = 1 ∨ k = 2 ∨ k = 3 ∨ k = 4 ∨ k = 5 ∨ k = 6 := by omega
  rcases hk7 with rfl | rfl | rfl | rfl | rfl | rfl | rfl
  · exact ⟨_, _, _, _, _, _, g1.below hb', cell_new6 rfl, cell_new6 rfl, cell_new6 rfl⟩
  · exact ⟨_, _, _, _, _, _, g2.below hb', cell_new6 rfl, cell_new6 rfl, cell_new6 rfl⟩
  · exact ⟨_, _, _, _, _, _, g3.below hb', cell_new6 rfl, cell_new6 rfl, cell_new6 rfl⟩
  · exact ⟨_, _, _, _, _, _, g4.below hb', cell_new6 rfl, cell_new6 rfl, cell_new6 rfl⟩
  · exact ⟨_, _, _, _, _, _, g5.below hb', cell_new6 rfl, cell_new6 rfl, cell_new6 rfl⟩
  · exact ⟨_, _, _, _, _, _, g6.below hb', cell_new6 rfl, cell_new6 rfl, cell_new6 rfl⟩
  · exact ⟨_, _, _, _, _, _, g7.below hb', cell_new6 rfl, cell_new6 rfl, cell_new6 rfl⟩

end Go.Proofs.Ytjipmkgnndldpaa
