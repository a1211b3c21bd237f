/- The closures of Delay, Backlog and Peak: the distance at a tick. By the verifier's side. -/
import Derived.Test.YtjipmkgnndldpaaEDevB
import Derived.Test.YtjipmkgnndldpaaEDevADevC
import Derived.Test.YtjipmkgnndldpaaEPwFPwG
import Derived.Laws.EntriesVeiled
namespace Go.Proofs.Ytjipmkgnndldpaa
open Go.RowKit
set_option linter.unusedSimpArgs false
set_option linter.unusedVariables false

/-- What the closure of the delay sees: the pair's box, the closure of the first curve in a box. -/
structure K1 (w : World) (PB AB B : Nat) (a1 : Option Addr) (n1 cap1 p1 : Nat) (i1 : Int) (z1 : List Int) (a2 : Option Addr) (n2 cap2 p2 : Nat) (i2 : Int) (z2 : List Int) (L : Nat) (u : World) : Prop where
  pr : P7 u PB (.slice a1 n1 cap1) (.int .i64 p1) (.int .i64 i1) (.slice a2 n2 cap2) (.int .i64 p2) (.int .i64 i2) (.int .i64 L)
  fn : u.cell? ⟨AB, 0, none⟩ = some (closPV B)
  cl : ClosP u B a1 n1 cap1 z1 p1 i1
  r2 : RowZ u a2 n2 cap2 z2
  below : Below w.heap.size w u
section
variable {w u v : World} {PB AB BB B C : Nat} {a1 : Option Addr} {n1 cap1 p1 : Nat} {i1 : Int} {z1 : List Int} {a2 : Option Addr} {n2 cap2 p2 : Nat} {i2 : Int} {z2 : List Int} {L : Nat}
theorem K1.call (h : K1 w PB AB B a1 n1 cap1 p1 i1 z1 a2 n2 cap2 p2 i2 z2 L u) (hb : Below u.heap.size u v) : K1 w PB AB B a1 n1 cap1 p1 i1 z1 a2 n2 cap2 p2 i2 z2 L v :=
  ⟨h.pr.below hb, (hb.cell (lt_of_cell h.fn)).trans h.fn, h.cl.under hb, h.r2.under hb, h.below.trans (hb.mono h.below.size)⟩
abbrev K1S (w : World) (PB AB B : Nat) (a1 : Option Addr) (n1 cap1 p1 : Nat) (i1 : Int) (z1 : List Int) (a2 : Option Addr) (n2 cap2 p2 : Nat) (i2 : Int) (z2 : List Int) (L : Nat) (u : World) : Prop :=
  u.cell? ⟨PB, 3, none⟩ = some (.slice a2 n2 cap2) ∧ u.cell? ⟨PB, 4, none⟩ = some (.int .i64 p2) ∧ u.cell? ⟨PB, 5, none⟩ = some (.int .i64 i2) ∧ u.cell? ⟨AB, 0, none⟩ = some (closPV B) ∧ Hid (K1 w PB AB B a1 n1 cap1 p1 i1 z1 a2 n2 cap2 p2 i2 z2 L u)
theorem k1s_of (h : K1 w PB AB B a1 n1 cap1 p1 i1 z1 a2 n2 cap2 p2 i2 z2 L u) : K1S w PB AB B a1 n1 cap1 p1 i1 z1 a2 n2 cap2 p2 i2 z2 L u := ⟨h.pr.c3, h.pr.c4, h.pr.c5, h.fn, h⟩
end

set_option maxRecDepth 100000 in
set_option maxHeartbeats 3200000 in
theorem delay1_any (PB AB B : Nat) (a1 : Option Addr) (n1 cap1 p1 : Nat) (i1 : Int) (z1 : List Int) (a2 : Option Addr) (n2 cap2 p2 : Nat) (i2 : Int) (z2 : List Int) (L : Nat) (g1 : Good z1 p1 i1) (g2 : Good z2 p2 i2) (t : Nat) (ht : t ≤ 1000) (w : World) (h : K1 w PB AB B a1 n1 cap1 p1 i1 z1 a2 n2 cap2 p2 i2 z2 L w) :
    Calls Try.prog 119 #[.int .i64 (t : Int), .pointer (some ⟨PB, 0, none⟩), .pointer (some ⟨AB, 0, none⟩)] w fun e w' => e = .returned (.int .i64 (waitI (eC z1 p1 i1) (eC z2 p2 i2) t)) ∧ Below w.heap.size w w' := by
  have HK0 := Lib.hid (h.call (Below.refl _ _).drew)
  obtain ⟨v, hv⟩ : ∃ v, atC z1 p1 i1 t = v := ⟨_, rfl⟩
  have HV := Lib.hid (show enc (eC z1 p1 i1 t) = v by rw [enc_eC]; exact hv)
  have HA := Lib.hid (asks_at g1 ht)
  have G2 := Lib.hid g2
  have HV2 := Lib.hid hv
  obtain ⟨c0, c1, c2, c3, _⟩ := k1s_of h
  have EV := Lib.hid (show ∀ (args : Array Value) (w : World), (callFunc 209 args).run Try.prog w = .ok (.enter 209 args) w from enters_of Try.func209 (by kernel_rfl) rfl)
  have ev := EV.out
  clear h g1 g2 hv
  go_enter Try.func119, Try.ntmps119
  go_upto_region 1 with fail
  clear c0 c1 c2 c3
  refine wp_region_keeps (fun u => K1S w PB AB B a1 n1 cap1 p1 i1 z1 a2 n2 cap2 p2 i2 z2 L u) 10 1 (by kernel_rfl) (by kernel_rfl) (k1s_of HK0.out) (fun hHeld0 => ?_)
  refine wpAnyK_take (i := 0) (v := ?_) rfl (by kernel_rfl) (fun _ _ _ h => h) (Or.inl ⟨by rfl, ?_⟩) (by assumption) ?_
  rotate_left
  · (intro w hSw; (try dsimp only at hSw); go_simp; try with_reducible rfl)
  try simp only [Act.put, List.getElem_toArray, List.getElem_cons_zero, List.getElem_cons_succ, List.setIfInBounds_toArray, List.set_cons_zero, List.set_cons_succ]
  refine wpAnyK_take (i := 1) (v := ?_) rfl (by kernel_rfl) (fun _ _ _ h => h) (Or.inl ⟨by rfl, ?_⟩) (by assumption) ?_
  rotate_left
  · (intro w hSw; (try dsimp only at hSw); go_simp; try with_reducible rfl)
  try simp only [Act.put, List.getElem_toArray, List.getElem_cons_zero, List.getElem_cons_succ, List.setIfInBounds_toArray, List.set_cons_zero, List.set_cons_succ]
  refine wpAnyK_take (i := 2) (v := ?_) rfl (by kernel_rfl) (fun _ _ _ h => h) (Or.inl ⟨by rfl, ?_⟩) (by assumption) ?_
  rotate_left
  · (intro w hSw; (try dsimp only at hSw); go_simp; try with_reducible rfl)
  try simp only [Act.put, List.getElem_toArray, List.getElem_cons_zero, List.getElem_cons_succ, List.setIfInBounds_toArray, List.set_cons_zero, List.set_cons_succ]
  refine wpAnyK_take (i := 3) (v := ?_) rfl (by kernel_rfl) (fun _ _ _ h => h) (Or.inl ⟨by rfl, ?_⟩) (by assumption) ?_
  rotate_left
  · (intro w hSw; (try dsimp only at hSw); go_simp; try with_reducible rfl)
  try simp only [Act.put, List.getElem_toArray, List.getElem_cons_zero, List.getElem_cons_succ, List.setIfInBounds_toArray, List.set_cons_zero, List.set_cons_succ]
  refine wpAnyK_step (i := 4) rfl (by kernel_rfl) (fun K hK => ?_)
  go_simp
  with_reducible refine (atp_any B a1 n1 cap1 z1 p1 i1 t (by omega) _ HK0.out.cl).mono ?_
  rintro e u3 ⟨rfl, hd⟩
  have T1 := Lib.hid (HK0.out.call (below_dr (Below.refl _ _) hd))
  clear hd
  rw [HV2.out]
  refine hK.out _ _ (k1s_of T1.out) (fun hHeld1 => ?_)
  clear hK K hHeld0
  try simp only [Act.put, List.getElem_toArray, List.getElem_cons_zero, List.getElem_cons_succ, List.setIfInBounds_toArray, List.set_cons_zero, List.set_cons_succ]
  refine wpAnyK_step (i := 5) rfl (by kernel_rfl) (fun K hK => ?_)
  go_simp
  with_reducible refine (reach_any a2 n2 cap2 z2 p2 i2 G2.out (eC z1 p1 i1 t) HA.out v HV.out _ T1.out.r2).mono ?_
  rintro e u4 ⟨o, k, rfl, hb, hF, hk⟩
  have T2 := Lib.hid (T1.out.call hb)
  have HW := Lib.hid (waitI_eq (a := eC z1 p1 i1) hF)
  clear hb hF
  refine hK.out _ _ (k1s_of T2.out) (fun hHeld2 => ?_)
  clear hK K hHeld1
  try simp only [Act.put, List.getElem_toArray, List.getElem_cons_zero, List.getElem_cons_succ, List.setIfInBounds_toArray, List.set_cons_zero, List.set_cons_succ]
  refine wpAnyK_take (i := 6) (v := ?_) rfl (by kernel_rfl) (fun _ _ _ h => h) (Or.inl ⟨by rfl, ?_⟩) (by assumption) ?_
  rotate_left
  · (intro w hSw; (try dsimp only at hSw); go_simp; try with_reducible rfl)
  try simp only [Act.put, List.getElem_toArray, List.getElem_cons_zero, List.getElem_cons_succ, List.setIfInBounds_toArray, List.set_cons_zero, List.set_cons_succ]
  refine wpAnyK_take (i := 7) (v := ?_) rfl (by kernel_rfl) (fun _ _ _ h => h) (Or.inl ⟨by rfl, ?_⟩) (by assumption) ?_
  rotate_left
  · (intro w hSw; (try dsimp only at hSw); go_simp; try with_reducible rfl)
  try simp only [Act.put, List.getElem_toArray, List.getElem_cons_zero, List.getElem_cons_succ, List.setIfInBounds_toArray, List.set_cons_zero, List.set_cons_succ]
  refine wpAnyK_take (i := 8) (v := ?_) rfl (by kernel_rfl) (fun _ _ _ h => h) (Or.inl ⟨by rfl, ?_⟩) (by assumption) ?_
  rotate_left
  · (intro w hSw; (try dsimp only at hSw); go_simp; try with_reducible rfl)
  try simp only [Act.put, List.getElem_toArray, List.getElem_cons_zero, List.getElem_cons_succ, List.setIfInBounds_toArray, List.set_cons_zero, List.set_cons_succ]
  refine wpAnyK_take (i := 9) (v := ?_) rfl (by kernel_rfl) (fun _ _ _ h => h) (Or.inl ⟨by rfl, ?_⟩) (by assumption) ?_
  rotate_left
  · (intro w hSw; (try dsimp only at hSw); go_simp; try with_reducible rfl)
  try simp only [Act.put, List.getElem_toArray, List.getElem_cons_zero, List.getElem_cons_succ, List.setIfInBounds_toArray, List.set_cons_zero, List.set_cons_succ]
  refine wpAnyK_done (by kernel_rfl) ?_
  simp only [List.drop_succ_cons, List.drop_zero]
  clear hHeld2
  cases o with
  | false =>
    go_wp2_with fail
    go_ret
    exact ⟨by rw [HW.out]; rfl, T2.out.below⟩
  | true =>
    have hsub : IntKind.i64.wrap ((k : Int) - (t : Int)) = (k : Int) - (t : Int) := IntWalk.i64_in _ ⟨by omega, by omega⟩
    go_wp2_with fail
    go_ret
    exact ⟨by rw [HW.out]; rfl, T2.out.below⟩
end Go.Proofs.Ytjipmkgnndldpaa

namespace Go.Proofs.Ytjipmkgnndldpaa
open Go.RowKit
set_option linter.unusedSimpArgs false
set_option linter.unusedVariables false

/-- The boxes of the two curves and of the result. -/
structure SV (w : World) (a1 : Option Addr) (n1 cap1 p1 : Nat) (i1 : Int) (z1 : List Int) (a2 : Option Addr) (n2 cap2 p2 : Nat) (i2 : Int) (z2 : List Int) (u : World) : Prop where
  c1 : Cur3 u w.heap.size (.slice a1 n1 cap1) (.int .i64 p1) (.int .i64 i1)
  c2 : Cur3 u (w.heap.size + 1) (.slice a2 n2 cap2) (.int .i64 p2) (.int .i64 i2)
  res : Cur3 u (w.heap.size + 2) (.bool false) (.int .i64 0) (.int .i64 0)
  r1 : RowZ u a1 n1 cap1 z1
  r2 : RowZ u a2 n2 cap2 z2
  below : Below w.heap.size w u
section
variable {w u v : World} {a1 : Option Addr} {n1 cap1 p1 : Nat} {i1 : Int} {z1 : List Int} {a2 : Option Addr} {n2 cap2 p2 : Nat} {i2 : Int} {z2 : List Int}
theorem SV.call (h : SV w a1 n1 cap1 p1 i1 z1 a2 n2 cap2 p2 i2 z2 u) (hb : Below u.heap.size u v) : SV w a1 n1 cap1 p1 i1 z1 a2 n2 cap2 p2 i2 z2 v :=
  ⟨h.c1.below hb, h.c2.below hb, h.res.below hb, h.r1.under hb, h.r2.under hb, h.below.trans (hb.mono h.below.size)⟩
theorem sv_start (h1 : RowZ w a1 n1 cap1 z1) (h2 : RowZ w a2 n2 cap2 z2) {W : World} (hW : ((w.alloc (.cells #[.slice a1 n1 cap1, .int .i64 p1, .int .i64 i1] 38)).alloc (.cells #[.slice a2 n2 cap2, .int .i64 p2, .int .i64 i2] 38)).alloc (.cells #[.bool false, .int .i64 0, .int .i64 0] 57) = W) : SV w a1 n1 cap1 p1 i1 z1 a2 n2 cap2 p2 i2 z2 W ∧ W.heap.size = w.heap.size + 3 := by
  subst hW
  have hB : Below w.heap.size w (((w.alloc (.cells #[.slice a1 n1 cap1, .int .i64 p1, .int .i64 i1] 38)).alloc (.cells #[.slice a2 n2 cap2, .int .i64 p2, .int .i64 i2] 38)).alloc (.cells #[.bool false, .int .i64 0, .int .i64 0] 57)) := (((Below.refl _ _).alloc (Nat.le_refl _) _).alloc (by simp) _).alloc (by simp; omega) _
  refine ⟨⟨((Cur3.new w _ _ _ _).alloc _).alloc _, (Cur3.new2 w _ _ _ _ _).alloc _, ?_, h1.under hB, h2.under hB, hB⟩, by simp⟩
  have := Cur3.new ((w.alloc (.cells #[.slice a1 n1 cap1, .int .i64 p1, .int .i64 i1] 38)).alloc (.cells #[.slice a2 n2 cap2, .int .i64 p2, .int .i64 i2] 38)) (.bool false) (.int .i64 0) (.int .i64 0) 57
  simpa using this
end
/-- Behind the pair: the result's box, the pair's, its curves. -/
structure SPv (w : World) (PB : Nat) (a3 : Option Addr) (n3 cap3 r1 : Nat) (k1 : Int) (x1 : List Int) (a4 : Option Addr) (n4 cap4 r2 : Nat) (k2 : Int) (x2 : List Int) (L : Nat) (u : World) : Prop where
  res : Cur3 u (w.heap.size + 2) (.bool false) (.int .i64 0) (.int .i64 0)
  pr : P7 u PB (.slice a3 n3 cap3) (.int .i64 r1) (.int .i64 k1) (.slice a4 n4 cap4) (.int .i64 r2) (.int .i64 k2) (.int .i64 L)
  r1 : RowZ u a3 n3 cap3 x1
  r2 : RowZ u a4 n4 cap4 x2
  below : Below w.heap.size w u
section
variable {w u v : World} {PB : Nat} {a3 : Option Addr} {n3 cap3 r1 : Nat} {k1 : Int} {x1 : List Int} {a4 : Option Addr} {n4 cap4 r2 : Nat} {k2 : Int} {x2 : List Int} {L : Nat}
theorem SPv.call (h : SPv w PB a3 n3 cap3 r1 k1 x1 a4 n4 cap4 r2 k2 x2 L u) (hb : Below u.heap.size u v) : SPv w PB a3 n3 cap3 r1 k1 x1 a4 n4 cap4 r2 k2 x2 L v :=
  ⟨h.res.below hb, h.pr.below hb, h.r1.under hb, h.r2.under hb, h.below.trans (hb.mono h.below.size)⟩
end
/-- A deviation is handed back, and no error. -/
def GivesDev (P : Bool → Int → Nat → Prop) (w : World) (e : Ending) (w' : World) : Prop :=
  ∃ i m k, e = .returned (.tuple #[.agg #[.bool i, .int .i64 m, .int .i64 (k : Nat)], .int .i64 0]) ∧ Below w.heap.size w w' ∧ P i m k
/-- The curves are taken as they are: their normal forms have the same values. -/
theorem norm_E {zs ys : List Int} {p q : Nat} {inc jnc : Int} (h : NormC zs p inc ys q jnc) (g : Good zs p inc) : eC ys q jnc = eC zs p inc := funext fun t => (h.eform g).2.1 t
theorem pairP_of {z1 z2 y1 y2 : List Int} {p1 p2 q1 q2 : Nat} {i1 i2 j1 j2 : Int} (g1 : Good z1 p1 i1) (g2 : Good z2 p2 i2) (hn1 : NormC z1 p1 i1 y1 q1 j1) (hn2 : NormC z2 p2 i2 y2 q2 j2) {L : Nat} (hL : q1 / Nat.gcd q1 q2 * q2 = L) (hL2 : L ≤ 120) : PairP y1 q1 j1 y2 q2 j2 L :=
  ⟨hn1.good g1, hn2.good g2, norm_self2 hn1 g1, norm_self2 hn2 g2, (lcm_of (hn1.good g1).p1 (hn2.good g2).p1 hL).mult, hL2⟩
set_option maxRecDepth 100000 in
set_option maxHeartbeats 6400000 in
theorem delay_ok (a1 : Option Addr) (n1 cap1 : Nat) (z1 : List Int) (p1 : Nat) (i1 : Int) (g1 : Good z1 p1 i1) (a2 : Option Addr) (n2 cap2 : Nat) (z2 : List Int) (p2 : Nat) (i2 : Int) (g2 : Good z2 p2 i2)
    {y1 y2 : List Int} {q1 q2 : Nat} {j1 j2 : Int} (hn1 : NormC z1 p1 i1 y1 q1 j1) (hn2 : NormC z2 p2 i2 y2 q2 j2) (L : Nat) (hL : q1 / Nat.gcd q1 q2 * q2 = L) (hL2 : L ≤ 120) (w : World) (h1 : RowZ w a1 n1 cap1 z1) (h2 : RowZ w a2 n2 cap2 z2) :
    Calls Try.prog 34 #[curV a1 n1 cap1 p1 i1, curV a2 n2 cap2 p2 i2] w (GivesDev (DevD (eC z1 p1 i1) (eC z2 p2 i2)) w) := by
  have hmf : ∀ (fn : Fn) (first cap : Array Value) (w : World), (Instr.makeFunc fn first cap).run Try.prog w = .ok (.func fn first cap) w := fun _ _ _ _ => rfl
  obtain ⟨W, hW⟩ : ∃ W, ((w.alloc (.cells #[.slice a1 n1 cap1, .int .i64 p1, .int .i64 i1] 38)).alloc (.cells #[.slice a2 n2 cap2, .int .i64 p2, .int .i64 i2] 38)).alloc (.cells #[.bool false, .int .i64 0, .int .i64 0] 57) = W := ⟨_, rfl⟩
  obtain ⟨t0, hsz⟩ := sv_start (p1 := p1) (i1 := i1) (p2 := p2) (i2 := i2) h1 h2 hW
  have T0 := Lib.hid t0
  have HSZ := Lib.hid hsz
  have HW := Lib.hid hW
  have HP := Lib.hid (pairP_of g1 g2 hn1 hn2 hL hL2)
  have HE := Lib.hid (And.intro (norm_E hn1 g1) (norm_E hn2 g2))
  have G1 := Lib.hid g1
  have G2 := Lib.hid g2
  have HN := Lib.hid (And.intro hn1 hn2)
  have HL := Lib.hid (And.intro hL hL2)
  clear t0 hsz hW g1 g2 hn1 hn2 hL hL2 h1 h2
  obtain ⟨c0, c1, c2, f0, f1, f2⟩ := T0.out.c1
  obtain ⟨d0, d1, d2, e0, e1, e2⟩ := T0.out.c2
  go_enter Try.func34, Try.ntmps34
  go_upto_region 1 with fail
  try rw [HW.out]
  go_wp2_with fail
  refine (vpaired_ok a1 n1 cap1 z1 p1 i1 G1.out a2 n2 cap2 z2 p2 i2 G2.out HN.out.1 HN.out.2 L HL.out.1 HL.out.2 _ T0.out.r1 T0.out.r2).mono ?_
  rintro e w1 ⟨a3, n3, cap3, a4, n4, cap4, rfl, hb, hr1, hr2⟩
  obtain ⟨w2, hw2⟩ : ∃ W', w1.alloc (.cells #[.slice a3 n3 cap3, .int .i64 q1, .int .i64 j1, .slice a4 n4 cap4, .int .i64 q2, .int .i64 j2, .int .i64 L] 131) = W' := ⟨_, rfl⟩
  have hz : Below w1.heap.size w1 w2 := by rw [← hw2]; exact (Below.refl _ _).alloc (Nat.le_refl _) _
  have S2 := Lib.hid (show SPv w w1.heap.size a3 n3 cap3 q1 j1 y1 a4 n4 cap4 q2 j2 y2 L w2 from ⟨(T0.out.res.below hb).below hz, by rw [← hw2]; exact p7_new w1 _ _ _ _ _ _ _ _, hr1.under hz, hr2.under hz, (T0.out.below.trans (hb.mono T0.out.below.size)).trans (hz.mono (Nat.le_trans T0.out.below.size hb.size))⟩)
  have HSB := Lib.hid (show w.heap.size + 3 ≤ w1.heap.size from Nat.le_trans (Nat.le_of_eq HSZ.out.symm) hb.size)
  have HW2 := Lib.hid hw2
  clear hb hr1 hr2 hw2 hz c0 c1 c2 f0 f1 f2 d0 d1 d2 e0 e1 e2
  go_upto_region 4 with fail
  try rw [HW2.out]
  obtain ⟨PB, hPB⟩ : ∃ PB, w1.heap.size = PB := ⟨_, rfl⟩
  rw [hPB] at S2 HSB
  try rw [hPB]
  clear hPB HW2
  obtain ⟨⟨c0, c1, c2, f0, f1, f2⟩, c3, c4, c5, c6, f3, f4, f5, f6⟩ := S2.out.pr
  go_wp2_with fail
  refine (pvalues_p a3 n3 cap3 y1 q1 j1 HP.out.g _ S2.out.r1).mono ?_
  rintro e w3 ⟨B, rfl, hb, hlB, hmB, hcl⟩
  obtain ⟨w4, hw4⟩ : ∃ W', w3.alloc (.cells #[.func (.func 209) #[] #[.pointer (some ⟨B + 1, 0, none⟩), .pointer (some ⟨B, 0, none⟩)]] 32) = W' := ⟨_, rfl⟩
  have hz : Below w3.heap.size w3 w4 := by rw [← hw4]; exact (Below.refl _ _).alloc (Nat.le_refl _) _
  have S5 := Lib.hid (show SPv w PB a3 n3 cap3 q1 j1 y1 a4 n4 cap4 q2 j2 y2 L w4 from (S2.out.call hb).call hz)
  have HCD := Lib.hid (show ClosD 119 #[.pointer (some ⟨PB, 0, none⟩), .pointer (some ⟨w3.heap.size, 0, none⟩)] (max (y1.length - q1) (y2.length - q2) + L) (waitI (eC y1 q1 j1) (eC y2 q2 j2)) w4 from fun u hu t ht => by
    have hp := HP.out
    have hfe := hp.g.few
    have hfe2 := hp.k.few
    have hl := hp.l
    have S := S5.out.call hu
    exact delay1_any PB w3.heap.size B a3 n3 cap3 q1 j1 y1 a4 n4 cap4 q2 j2 y2 L hp.g hp.k t (by omega) u ⟨S.pr, by
      have : w4.cell? ⟨w3.heap.size, 0, none⟩ = some (closPV B) := by rw [← hw4]; exact new_cell _ _ _
      exact (hu.cell (lt_of_cell this)).trans this, (hcl.under hz).under hu, S.r2, Below.refl _ _⟩)
  have HW4 := Lib.hid hw4
  clear hb hlB hmB hcl hz hw4 c0 c1 c2 f0 f1 f2 c3 c4 c5 c6 f3 f4 f5 f6
  go_upto_region 5 with fail
  try rw [HW4.out]
  have EG := Lib.hid (show ∀ (args : Array Value) (w : World), (callFunc 119 args).run Try.prog w = .ok (.enter 119 args) w from enters_of Try.func119 (by kernel_rfl) rfl)
  obtain ⟨⟨c0, c1, c2, f0, f1, f2⟩, c3, c4, c5, c6, f3, f4, f5, f6⟩ := S5.out.pr
  go_wp2_with fail
  refine (greatest_any a3 n3 cap3 y1 q1 j1 a4 n4 cap4 y2 q2 j2 L HP.out 119 #[.pointer (some ⟨PB, 0, none⟩), .pointer (some ⟨w3.heap.size, 0, none⟩)] (waitI (eC y1 q1 j1) (eC y2 q2 j2)) _ rfl (fun t ht => by
    have hp := HP.out
    have hfe := hp.g.few
    have hfe2 := hp.k.few
    have hl := hp.l
    rcases waitI_bd hp.g hp.k (t := t) (by omega) with h | h
    · rw [h]; unfold infV; omega
    · omega) _ S5.out.r1 S5.out.r2 EG.out HCD.out).mono ?_
  rintro e u7 ⟨i, m, k, rfl, hb, hG⟩
  have S6 := Lib.hid (S5.out.call hb)
  have HG := Lib.hid hG
  clear c0 c1 c2 f0 f1 f2 c3 c4 c5 c6 f3 f4 f5 f6 hb hG
  obtain ⟨c0, c1, c2, f0, f1, f2⟩ := S6.out.res
  have HF := Lib.hid (show GivesDev (DevD (eC z1 p1 i1) (eC z2 p2 i2)) w (.returned (.tuple #[.agg #[.bool i, .int .i64 m, .int .i64 k], .int .i64 0])) (((u7.setCell ⟨w.heap.size + 2, 0, none⟩ (.bool i)).setCell ⟨w.heap.size + 2, 1, none⟩ (.int .i64 m)).setCell ⟨w.heap.size + 2, 2, none⟩ (.int .i64 k)) from ⟨i, m, k, rfl, below_set3 S6.out.below (by omega) _ _ _, by
    have hp := HP.out
    have hfe := hp.g.few
    have hfe2 := hp.k.few
    have hl := hp.l
    rw [← HE.out.1, ← HE.out.2]
    exact great_dev hp.g hp.k hp.m hl (Nat.le_refl _) (by omega) HG.out⟩)
  go_wp2_with fail
  exact bodyPost_ret (v := .tuple #[.agg #[.bool i, .int .i64 m, .int .i64 k], .int .i64 0]) (by simp [results, Try.results34, go_sem, c0, c1, c2]) rfl HF.out

end Go.Proofs.Ytjipmkgnndldpaa
