/- Two curves of a hop compared; the document's other way. By the verifier's side. -/
import Derived.Test.YthljhddnfflpjaaHHpL
import Derived.Test.YthljhddnfflpjaaHHp1PkW
import Derived.Test.YthljhddnfflpjaaHOrdAS
namespace Go.Proofs.Ythljhddnfflpjaa
open Go.RowKit
set_option linter.unusedSimpArgs false
set_option linter.unusedVariables false

theorem ole_low15 {x y : Option Int} {c d : Int} (h : ole x y) (hcd : d ≤ c) : ole (omap (fun z => max (z - c) 0) x) (omap (fun z => max (z - d) 0) y) := fun v hv => by
  obtain ⟨y0, hy, rfl⟩ := omap_some hv
  obtain ⟨x0, hx, hle⟩ := h y0 hy
  exact ⟨max (x0 - c) 0, by rw [hx]; rfl, by omega⟩
theorem hop_ole {zs ys : List Int} {p q : Nat} {inc jnc c d : Int} (h : ∀ t, ole (eC zs p inc t) (eC ys q jnc t)) (hcd : d ≤ c) (t : Nat) : ole (eHop c zs p inc t) (eHop d ys q jnc t) := by
  unfold eHop
  by_cases e : t = 0
  · rw [if_pos e, if_pos e]; exact ole_refl _
  · rw [if_neg e, if_neg e]; exact ole_low15 (h _) hcd
theorem sum_ole {zs ys xs : List Int} {p q r : Nat} {inc jnc knc : Int} (k : Good ys q jnc) (he : ∀ t, eC xs r knc t = eSum zs p inc ys q jnc t) (t : Nat) : ole (eC zs p inc t) (eC xs r knc t) := fun v hv => by
  rw [he] at hv
  unfold eSum at hv
  cases h1 : eC zs p inc t with
  | none => rw [h1] at hv; cases h2 : eC ys q jnc t <;> rw [h2] at hv <;> cases hv
  | some x =>
    cases h2 : eC ys q jnc t with
    | none => rw [h1, h2] at hv; cases hv
    | some y =>
      rw [h1, h2] at hv
      have e : x + y = v := by injection hv
      exact ⟨x, rfl, by have := (eC_bd k h2).1; omega⟩
theorem atMost15 (a1 : Option Addr) (n1 cap1 : Nat) (z1 : List Int) (p1 : Nat) (i1 : Int) (g1 : Good z1 p1 i1) (a2 : Option Addr) (n2 cap2 : Nat) (z2 : List Int) (p2 : Nat) (i2 : Int) (g2 : Good z2 p2 i2) (hb : ∀ t, ole (eC z1 p1 i1 t) (eC z2 p2 i2 t)) (w : World) (h1 : RowZ w a1 n1 cap1 z1) (h2 : RowZ w a2 n2 cap2 z2) :
    Calls Try.prog 82 #[curV a1 n1 cap1 p1 i1, curV a2 n2 cap2 p2 i2] w (Says (.bool true) w) :=
  ratMost_ok a1 n1 cap1 z1 p1 i1 g1 a2 n2 cap2 z2 p2 i2 g2 _ false w h1 h2 (excP_of hb)

/-- A curve with these values, or none. -/
def HpR (E : Nat → Option Int) (zs : List Int) (p inc c : Int) : Prop := (c = 0 ∧ ∃ q : Nat, p = q ∧ EForm zs q inc E) ∨ (c = 3 ∧ ¬ ECan E ∧ zs = [] ∧ p = 0 ∧ inc = 0)
theorem HpR.unique {E : Nat → Option Int} {zs ys : List Int} {p q inc jnc c d : Int} (h : HpR E zs p inc c) (k : HpR E ys q jnc d) : ys = zs ∧ q = p ∧ jnc = inc ∧ d = c := by
  rcases h with ⟨rfl, r, rfl, h⟩ | ⟨rfl, hn, rfl, rfl, rfl⟩
  · rcases k with ⟨rfl, s, rfl, k⟩ | ⟨_, kn, _⟩
    · obtain ⟨rfl, rfl, rfl⟩ := h.unique k; exact ⟨rfl, rfl, rfl, rfl⟩
    · exact absurd h.can kn
  · rcases k with ⟨_, s, _, k⟩ | ⟨rfl, _, rfl, rfl, rfl⟩
    · exact absurd k.can hn
    · exact ⟨rfl, rfl, rfl, rfl⟩
def GivesHp (E : Nat → Option Int) (w : World) (e : Ending) (w' : World) : Prop :=
  ∃ (a : Option Addr) (n cap : Nat) (zs : List Int) (p inc c : Int), e = .returned (.tuple #[curV a n cap p inc, .int .i64 c]) ∧ Below w.heap.size w w' ∧ RowZ w' a n cap zs ∧ HpR E zs p inc c ∧ ∀ x, a = some x → w.heap.size ≤ x.block
theorem GivesE.hp {E : Nat → Option Int} {w w' : World} {e : Ending} (h : GivesE E w e w') : GivesHp E w e w' := by
  obtain ⟨hb, ⟨a, n, cap, zs, p, inc, he, hr, hf, hx⟩ | ⟨he, hn⟩⟩ := h
  · exact ⟨a, n, cap, zs, p, inc, 0, he, hb, hr, .inl ⟨rfl, p, rfl, hf⟩, hx⟩
  · exact ⟨none, 0, 0, [], 0, 0, 3, he, hb, ⟨rfl, Nat.le_refl _, Nat.zero_le _, by omega, fun i hi => absurd hi (Nat.not_lt_zero _), fun i hi => absurd hi (Nat.not_lt_zero _)⟩, .inr ⟨rfl, hn, rfl, rfl, rfl⟩, fun x hx => by cases hx⟩
/-- A curve in a box; neither is the reader's. -/
structure Hbx (b : Nat) (u : World) (F : Nat) (a : Option Addr) (n c : Nat) (p j : Int) (z : List Int) : Prop where
  box : Cur3 u F (.slice a n c) (.int .i64 p) (.int .i64 j)
  row : RowZ u a n c z
  ne : F ≠ b
  far : ∀ x, a = some x → x.block ≠ b
section
variable {b : Nat} {u v : World} {F : Nat} {a : Option Addr} {n c : Nat} {p j : Int} {z : List Int}
theorem Hbx.call (h : Hbx b u F a n c p j z) (hb : Below u.heap.size u v) : Hbx b v F a n c p j z := ⟨h.box.below hb, h.row.under hb, h.ne, h.far⟩
theorem Hbx.take (h : Hbx b u F a n c p j z) (ha : Apart b u v) : Hbx b v F a n c p j z := ⟨h.box.apart ha h.ne, h.row.apart ha h.far, h.ne, h.far⟩
theorem Hbx.new (hr : RowZ u a n c z) (hb : b < u.heap.size) (hx : ∀ x, a = some x → x.block ≠ b) : Hbx b (u.alloc (.cells #[.slice a n c, .int .i64 p, .int .i64 j] 24)) u.heap.size a n c p j z :=
  ⟨Cur3.new u _ _ _ _, hr.under ((Below.refl _ _).alloc (Nat.le_refl _) _), by omega, hx⟩
theorem rowZ_ltH (h : RowZ u a n c z) : ∀ x, a = some x → 1 ≤ n → x.block < u.heap.size := fun x hx h1 => by
  obtain ⟨y, hy, hc⟩ := h.cell 0 (by omega)
  rw [hx] at hy; cases hy
  have e : (x.add 0).block = x.block := by unfold Addr.add; split <;> rfl
  have := lt_of_cell hc
  rwa [e] at this
theorem Hbx.lay (h : Hbx b u F a n c p j z) {G : Nat} (hF : F ≠ G) (hx : ∀ x, a = some x → 1 ≤ n → x.block ≠ G) (y0 y1 y2 : Value) : Hbx b (((u.setCell ⟨G, 0, none⟩ y0).setCell ⟨G, 1, none⟩ y1).setCell ⟨G, 2, none⟩ y2) F a n c p j z :=
  ⟨((h.box.other hF _ _).other hF _ _).other hF _ _, ((h.row.store hx _ _).store hx _ _).store hx _ _, h.ne, h.far⟩
theorem Hbx.put {x0 x1 x2 : Value} {G : Nat} (hz : Cur3 u G x0 x1 x2) (hr : RowZ u a n c z) (hG : G ≠ b) (hx : ∀ x, a = some x → 1 ≤ n → x.block ≠ G) (hf : ∀ x, a = some x → x.block ≠ b) : Hbx b (((u.setCell ⟨G, 0, none⟩ (.slice a n c)).setCell ⟨G, 1, none⟩ (.int .i64 p)).setCell ⟨G, 2, none⟩ (.int .i64 j)) G a n c p j z :=
  ⟨hz.set _ _ _, ((hr.store hx _ _).store hx _ _).store hx _ _, hG, hf⟩
theorem Hbx.cells (h : Hbx b u F a n c p j z) : u.cell? ⟨F, 0, none⟩ = some (.slice a n c) ∧ u.cell? ⟨F, 1, none⟩ = some (.int .i64 p) ∧ u.cell? ⟨F, 2, none⟩ = some (.int .i64 j) := ⟨h.box.c0, h.box.c1, h.box.c2⟩
end

set_option maxRecDepth 100000 in
set_option maxHeartbeats 3200000 in
/-- The hop curve by the document's other functions, where the later curve is one. -/
theorem lowered15 (a : Option Addr) (n cap : Nat) (zs : List Int) (p : Nat) (inc : Int) (g : Good zs p inc) (hcan : ECan (eLater 1 zs p inc)) (m : Int) (hm : 1 ≤ m ∧ m ≤ 1500) (w : World) (h : RowZ w a n cap zs) :
    Calls Try.prog 79 #[curV a n cap p inc, .int .i64 m] w (GivesE (eHop (m - 1) zs p inc) w) := by
  obtain ⟨W, hW⟩ : ∃ W, (w.alloc (.cells #[.slice a n cap, .int .i64 p, .int .i64 inc] 24)).alloc (.cells #[.slice none 0 0, .int .i64 0, .int .i64 0] 24) = W := ⟨_, rfl⟩
  have hB : Below w.heap.size w W := by rw [← hW]; exact ((Below.refl _ _).alloc (Nat.le_refl _) _).alloc (by simp) _
  have hWs : W.heap.size = w.heap.size + 2 := by rw [← hW]; simp
  have HB := Lib.hid hB
  have HWS := Lib.hid hWs
  have KR := Lib.hid (show Cur3 W (w.heap.size + 1) (.slice none 0 0) (.int .i64 0) (.int .i64 0) by rw [← hW]; exact Cur3.new2 w _ _ _ _ _)
  have K0 := Lib.hid (show Cur3 W w.heap.size (.slice a n cap) (.int .i64 p) (.int .i64 inc) by rw [← hW]; exact (Cur3.new w _ _ _ _).alloc _)
  have HR := Lib.hid (h.under hB)
  have HG := Lib.hid (And.intro g hcan)
  have HW := Lib.hid hW
  obtain ⟨hm1, hm2⟩ := hm
  have hw1 : IntKind.i64.wrap (m - 1) = m - 1 := IntWalk.i64_in _ ⟨by omega, by omega⟩
  obtain ⟨c0, c1, c2, f0, f1, f2⟩ := K0.out
  clear hB hWs h g hW hcan
  go_enter Try.func79, Try.ntmps79
  go_upto_region 1 with fail
  try rw [HW.out]
  go_wp2_with fail
  clear c0 c1 c2 f0 f1 f2
  refine (rlater_ok a n cap zs p inc HG.out.1 1 1 rfl (by omega) _ HR.out).mono ?_
  intro e v2 hg
  obtain ⟨a2, n2, cap2, z2, p2, i2, rfl, hb2, hr2, hf2, hx2⟩ := GivesE.ok HG.out.2 hg
  clear hg
  obtain ⟨V, hV⟩ : ∃ V, v2.alloc (.cells #[.slice a2 n2 cap2, .int .i64 p2, .int .i64 i2] 24) = V := ⟨_, rfl⟩
  have hbv : Below v2.heap.size v2 V := by rw [← hV]; exact (Below.refl _ _).alloc (Nat.le_refl _) _
  have B2 := Lib.hid (show Below W.heap.size W V from hb2.trans (hbv.mono hb2.size))
  have K2 := Lib.hid (show Cur3 V v2.heap.size (.slice a2 n2 cap2) (.int .i64 p2) (.int .i64 i2) by rw [← hV]; exact Cur3.new v2 _ _ _ _)
  have R2 := Lib.hid (hr2.under hbv)
  have F2 := Lib.hid hf2
  have KRV := Lib.hid (KR.out.below B2.out)
  have HBV := Lib.hid (HB.out.trans (B2.out.mono HB.out.size))
  have HL := Lib.hid (hop_lower (c := m - 1) (by omega) hf2.2.1)
  have HV2 := Lib.hid hV
  clear hb2 hbv hr2 hf2 hx2 hV
  go_upto_region 2 with fail
  try rw [HV2.out]
  obtain ⟨c0, c1, c2, f0, f1, f2⟩ := K2.out
  go_wp2_with fail
  clear c0 c1 c2 f0 f1 f2
  refine (rlower15 a2 n2 cap2 z2 p2 i2 F2.out.1 (m - 1) (by omega) (by omega) _ R2.out).mono ?_
  rintro e v9 ⟨hb, ⟨a9, n9, cap9, z9, p9, i9, rfl, hr, hf, hx⟩ | ⟨rfl, hno⟩⟩
  · have HP := Lib.hid (GivesE.post (E := eHop (m - 1) zs p inc) (b := w.heap.size + 1) HBV.out (by omega) KRV.out.lt hb hr hx (by rw [← HL.out]; exact hf))
    obtain ⟨r0, r1, r2, r3, r4, r5⟩ := KRV.out.below hb
    clear hb hr hf hx
    go_wp2_with fail
    exact bodyPost_ret (v := .tuple #[curV a9 n9 cap9 p9 i9, .int .i64 0]) (by simp [results, Try.results79, go_sem, r0, r1, r2]) rfl HP.out
  · have HP := Lib.hid (GivesE.postNo (E := eHop (m - 1) zs p inc) (b := w.heap.size + 1) HBV.out (by omega) hb (by rw [← HL.out]; exact hno))
    obtain ⟨r0, r1, r2, r3, r4, r5⟩ := KRV.out.below hb
    clear hb hno
    go_wp2_with fail
    exact bodyPost_ret (v := .tuple #[curV none 0 0 0 0, .int .i64 3]) (by simp [results, Try.results79, go_sem, r0, r1, r2]) rfl HP.out
end Go.Proofs.Ythljhddnfflpjaa
