/- The chapter's examples (awake). By the verifier's side. | The operations' contracts as the walks use them: results in boxes, results that may be errors. By the verifier's side. -/
import Derived.Test.YtknimlpdpgpliaaLPwFPwG
import Derived.Test.YtknimlpdpgpliaaLCurveNormalW
import Derived.Test.YtknimlpdpgpliaaLPwMPwOPwXR56M
import Derived.Test.YtknimlpdpgpliaaLKeepC
namespace Go.Proofs.Ytknimlpdpgpliaa
open Go.RowKit
set_option linter.unusedSimpArgs false

set_option maxRecDepth 100000 in
set_option maxHeartbeats 3200000 in
theorem awake5 (w : World) : Calls Try.prog 20 #[] w (Says (.bool true) w) := by
  obtain ⟨l1, l2, l3⟩ := lits5 w
  have Xf := Lib.hid l1
  have Xg := Lib.hid l2
  have HB := Lib.hid l3
  clear l1 l2 l3
  go_enter Try.func20, Try.ntmps20
  go_wp2_with fail
  generalize ((((w.alloc (.cells #[.int .i64 0] 3)).alloc (.cells #[.int .i64 0, .int .i64 10, .int .i64 12] 3)).alloc (.cells #[.slice (some ⟨w.heap.size, 0, none⟩) 1 1, .int .i64 1, .int .i64 3] 26)).alloc (.cells #[.slice (some ⟨w.heap.size + 1, 0, none⟩) 3 3, .int .i64 1, .int .i64 2] 26)) = w0 at Xf Xg HB ⊢
  refine ((min_ok (some ⟨w.heap.size, 0, none⟩) 1 1 [0] 1 3 e0_good (some ⟨w.heap.size + 1, 0, none⟩) 3 3 [0, 10, 12] 1 2 e1_good 1 (lcm_one e0_good e1_good) (by omega) _ Xf.out.row Xg.out.row).mono fun _ _ h => h.ok ex_min_can).mono ?_
  rintro e v1 ⟨a1, n1, cap1, z1, p1, i1, rfl, hb, hr, hf, hx⟩
  obtain ⟨w1, hw⟩ : ∃ W, v1.alloc (.cells #[.slice a1 n1 cap1, .int .i64 p1, .int .i64 i1] 26) = W := ⟨_, rfl⟩
  have hz : Below w0.heap.size w0 w1 := by rw [← hw]; exact hb.trans ((below_box _).mono hb.size)
  have Xf_1 := Lib.hid (Xf.out.under hz)
  have Xg_1 := Lib.hid (Xg.out.under hz)
  have HB_1 := Lib.hid (HB.out.trans (hz.mono HB.out.size))
  have Xm_1 := Lib.hid (show Bx w1 v1.heap.size a1 n1 cap1 p1 i1 z1 by rw [← hw]; exact Bx.new hr)
  have HFm := Lib.hid hf
  have hw1 := hw
  clear hb hr hf hx hz hw
  obtain ⟨c0, c1, c2, c3, c4, c5⟩ := Xf_1.out.box
  go_wp2_with fail
  try rw [hw1]
  clear hw1
  clear c0 c1 c2 c3 c4 c5
  refine ((lower_ok (some ⟨w.heap.size, 0, none⟩) 1 1 [0] 1 3 e0_good 4 (by omega) (by omega) _ Xf_1.out.row).mono fun _ _ h => h.ok ex_low.can).mono ?_
  rintro e v2 ⟨a2, n2, cap2, z2, p2, i2, rfl, hb, hr, hf, hx⟩
  obtain ⟨w2, hw⟩ : ∃ W, v2.alloc (.cells #[.slice a2 n2 cap2, .int .i64 p2, .int .i64 i2] 26) = W := ⟨_, rfl⟩
  have hz : Below w1.heap.size w1 w2 := by rw [← hw]; exact hb.trans ((below_box _).mono hb.size)
  have Xf_2 := Lib.hid (Xf_1.out.under hz)
  have Xg_2 := Lib.hid (Xg_1.out.under hz)
  have Xm_2 := Lib.hid (Xm_1.out.under hz)
  have HB_2 := Lib.hid (HB_1.out.trans (hz.mono HB_1.out.size))
  have Xx_2 := Lib.hid (show Bx w2 v2.heap.size a2 n2 cap2 p2 i2 z2 by rw [← hw]; exact Bx.new hr)
  have HFx := Lib.hid hf
  have hw2 := hw
  clear hb hr hf hx hz hw
  obtain ⟨c0, c1, c2, c3, c4, c5⟩ := Xm_2.out.box
  go_wp2_with fail
  try rw [hw2]
  clear hw2
  clear c0 c1 c2 c3 c4 c5
  with_reducible refine (value_at a1 n1 cap1 z1 p1 i1 HFm.out.good 8 8 rfl (by omega) 24 (HFm.out.at ex_min8) _ Xm_2.out.row).mono ?_
  rintro e w3 ⟨rfl, hb⟩
  have Xf_3 := Lib.hid (Xf_2.out.under hb)
  have Xg_3 := Lib.hid (Xg_2.out.under hb)
  have Xm_3 := Lib.hid (Xm_2.out.under hb)
  have Xx_3 := Lib.hid (Xx_2.out.under hb)
  have HB_3 := Lib.hid (HB_2.out.trans (hb.mono HB_2.out.size))
  clear hb
  obtain ⟨c0, c1, c2, c3, c4, c5⟩ := Xm_3.out.box
  go_wp2_with fail
  clear c0 c1 c2 c3 c4 c5
  with_reducible refine (value_at a1 n1 cap1 z1 p1 i1 HFm.out.good 20 20 rfl (by omega) 48 (HFm.out.at ex_min20) _ Xm_3.out.row).mono ?_
  rintro e w4 ⟨rfl, hb⟩
  have Xf_4 := Lib.hid (Xf_3.out.under hb)
  have Xg_4 := Lib.hid (Xg_3.out.under hb)
  have Xm_4 := Lib.hid (Xm_3.out.under hb)
  have Xx_4 := Lib.hid (Xx_3.out.under hb)
  have HB_4 := Lib.hid (HB_3.out.trans (hb.mono HB_3.out.size))
  clear hb
  obtain ⟨c0, c1, c2, c3, c4, c5⟩ := Xx_4.out.box
  have hr5 := rowZ_lit w4 [0, 0, 2] 3 (by decide) (by decide)
  have hb5 : Below w4.heap.size w4 (w4.alloc (.cells #[.int .i64 0, .int .i64 0, .int .i64 2] 3)) := below_box _
  have HR5 := Lib.hid (And.intro (show RowZ (w4.alloc (.cells #[.int .i64 0, .int .i64 0, .int .i64 2] 3)) (some ⟨w4.heap.size, 0, none⟩) 3 3 [0, 0, 2] from hr5) hb5)
  clear hr5 hb5
  go_wp2_with fail
  clear c0 c1 c2 c3 c4 c5
  refine (same_at HFx.out ex_low _ (Xx_4.out.row.under HR5.out.2) HR5.out.1).mono ?_
  rintro e w5 ⟨rfl, hb⟩
  have HB5 := Lib.hid (HB_4.out.trans ((HR5.out.2.trans (hb.mono HR5.out.2.size)).mono HB_4.out.size))
  clear hb
  go_wp2_with fail
  go_ret
  exact ⟨rfl, HB5.out⟩

end Go.Proofs.Ytknimlpdpgpliaa

namespace Go.Proofs.Ytknimlpdpgpliaa
open Go.RowKit
set_option linter.unusedSimpArgs false

theorem norm_per {zs zs' : List Int} {p p' : Nat} {inc inc' : Int} (g : Good zs p inc) (h : NormC zs p inc zs' p' inc') : p' ≤ p := by
  have h1 := g.p1
  rcases h with ⟨_, s, hn, _, _, hp⟩ | ⟨_, _, _, _, _, hp, _⟩ <;> omega

theorem src_cell {w : World} {b : Nat} {a : Option Addr} {n cap : Nat} (h : SrcAt w b a n cap) : w.cell? ⟨b, 0, none⟩ = some (.slice a n cap) := by
  obtain ⟨k, _, hb⟩ := h.src
  simp [World.cell?, hb]

theorem GivesE.no {E : Nat → Option Int} (hc : ¬ ECan E) {w w' : World} {e : Ending} (h : GivesE E w e w') : e = .returned (.tuple #[curV none 0 0 0 0, .int .i64 3]) ∧ Below w.heap.size w w' := by
  obtain ⟨hb, ⟨a, n, cap, zs, p, inc, he, hr, hf, hx⟩ | ⟨he, _⟩⟩ := h
  · exact absurd hf.can hc
  · exact ⟨he, hb⟩

/-- Of curves with short periods the periods of the normal forms have a small multiple. -/
theorem lcm_small {z1 z2 : List Int} {p1 p2 : Nat} {i1 i2 : Int} (g1 : Good z1 p1 i1) (g2 : Good z2 p2 i2) (h1 : p1 ≤ 10) (h2 : p2 ≤ 10) : ∃ L, L ≤ 120 ∧ LcmN z1 p1 i1 z2 p2 i2 L := by
  obtain ⟨y1, q1, j1, n1⟩ := g1.norm_ex
  obtain ⟨y2, q2, j2, n2⟩ := g2.norm_ex
  have e1 : q1 ≤ p1 := norm_per g1 n1
  have e2 : q2 ≤ p2 := norm_per g2 n2
  have a1 := (n1.good g1).p1
  have a2 := (n2.good g2).p1
  refine ⟨q1 / Nat.gcd q1 q2 * q2, ?_, _, _, _, _, _, _, n1, n2, rfl⟩
  have := (lcm_of a1 a2 rfl).le
  have : q1 * q2 ≤ 10 * 10 := Nat.mul_le_mul (by omega) (by omega)
  omega

theorem Bx.set {u : World} {F G : Nat} {a : Option Addr} {n cap p : Nat} {inc : Int} {zs : List Int} (h : Bx u F a n cap p inc zs) (hF : F ≠ G) (hx : ∀ x, a = some x → 1 ≤ n → x.block ≠ G) (v0 v1 v2 : Value) : Bx (((u.setCell ⟨G, 0, none⟩ v0).setCell ⟨G, 1, none⟩ v1).setCell ⟨G, 2, none⟩ v2) F a n cap p inc zs :=
  ⟨((h.box.other hF _ _).other hF _ _).other hF _ _, ((h.row.store hx _ _).store hx _ _).store hx _ _⟩
theorem Bx.put {u : World} {F : Nat} {a a2 : Option Addr} {n cap p n2 cap2 q : Nat} {inc jnc : Int} {zs ys : List Int} (h : Bx u F a n cap p inc zs) (hr : RowZ u a2 n2 cap2 ys) (hx : ∀ x, a2 = some x → 1 ≤ n2 → x.block ≠ F) : Bx (((u.setCell ⟨F, 0, none⟩ (.slice a2 n2 cap2)).setCell ⟨F, 1, none⟩ (.int .i64 q)).setCell ⟨F, 2, none⟩ (.int .i64 jnc)) F a2 n2 cap2 q jnc ys :=
  ⟨h.box.set _ _ _, ((hr.store hx _ _).store hx _ _).store hx _ _⟩

/-- A curve with these values and no error, or the zero curve and the error's number. -/
def MX (E : Nat → Option Int) (zs : List Int) (p inc c : Int) : Prop := (c = 0 ∧ ∃ q : Nat, p = q ∧ EForm zs q inc E) ∨ (c = 3 ∧ zs = [] ∧ p = 0 ∧ inc = 0)
def GivesMX (E : Nat → Option Int) (w : World) (e : Ending) (w' : World) : Prop :=
  ∃ (a : Option Addr) (n cap : Nat) (zs : List Int) (p inc c : Int), e = .returned (.tuple #[curV a n cap p inc, .int .i64 c]) ∧ Below w.heap.size w w' ∧ RowZ w' a n cap zs ∧ MX E zs p inc c ∧ (c = 0 ∨ c = 3) ∧ ∀ x, a = some x → w.heap.size ≤ x.block
theorem GivesE.mx {E : Nat → Option Int} {w w' : World} {e : Ending} (h : GivesE E w e w') : GivesMX E w e w' := by
  obtain ⟨hb, ⟨a, n, cap, zs, p, inc, he, hr, hf, hx⟩ | ⟨he, _⟩⟩ := h
  · exact ⟨a, n, cap, zs, p, inc, 0, he, hb, hr, .inl ⟨rfl, p, rfl, hf⟩, .inl rfl, hx⟩
  · exact ⟨none, 0, 0, [], 0, 0, 3, he, hb, ⟨rfl, Nat.le_refl _, Nat.zero_le _, by omega, fun i hi => absurd hi (Nat.not_lt_zero _), fun i hi => absurd hi (Nat.not_lt_zero _)⟩, .inr ⟨rfl, rfl, rfl, rfl⟩, .inr rfl, fun x hx => by cases hx⟩

/-- A curve in a box, with whatever numbers. -/
structure BxI (u : World) (F : Nat) (a : Option Addr) (n cap : Nat) (p inc : Int) (zs : List Int) : Prop where
  box : Cur3 u F (.slice a n cap) (.int .i64 p) (.int .i64 inc)
  row : RowZ u a n cap zs
theorem BxI.under {u v : World} {F : Nat} {a : Option Addr} {n cap : Nat} {p inc : Int} {zs : List Int} (h : BxI u F a n cap p inc zs) (hb : Below u.heap.size u v) : BxI v F a n cap p inc zs := ⟨h.box.below hb, h.row.under hb⟩
theorem BxI.new {w : World} {a : Option Addr} {n cap : Nat} {p inc : Int} {zs : List Int} (h : RowZ w a n cap zs) : BxI (w.alloc (.cells #[.slice a n cap, .int .i64 p, .int .i64 inc] 26)) w.heap.size a n cap p inc zs := ⟨Cur3.new _ _ _ _ _, h.alloc _⟩

theorem Bx.apart {u v : World} {F b : Nat} {a : Option Addr} {n cap p : Nat} {inc : Int} {zs : List Int} (h : Bx u F a n cap p inc zs) (ha : Apart b u v) (hF : F ≠ b) (hx : ∀ x, a = some x → ¬ x.block = b) : Bx v F a n cap p inc zs := ⟨h.box.apart ha hF, h.row.apart ha hx⟩
theorem BxI.apart {u v : World} {F b : Nat} {a : Option Addr} {n cap : Nat} {p inc : Int} {zs : List Int} (h : BxI u F a n cap p inc zs) (ha : Apart b u v) (hF : F ≠ b) (hx : ∀ x, a = some x → ¬ x.block = b) : BxI v F a n cap p inc zs := ⟨h.box.apart ha hF, h.row.apart ha hx⟩
theorem mid_far {zs : List Int} {p : Nat} {inc : Int} (g : Good zs p inc) {t : Nat} (ht : t < 1048576) : Mid (atC zs p inc t) := by
  rcases g.seen (t := t) (by omega) with h | ⟨_, h2, h3⟩
  · exact .inl h.2
  · exact .inr ⟨h2, by omega⟩
theorem src_under {w w' : World} {b : Nat} {a : Option Addr} {n cap : Nat} (h : SrcAt w b a n cap) (hb : Below w.heap.size w w') : SrcAt w' b a n cap := by
  have hl := h.lt
  obtain ⟨⟨k, hk, hs⟩, hf, hr⟩ := h
  refine ⟨⟨k, hk, (hb.block b hl).trans hs⟩, hf, fun i hi => ?_⟩
  obtain ⟨x, z, h1, h2, h3, h4⟩ := hr i hi
  exact ⟨x, z, h1, h2, (hb.cell (lt_of_cell h3)).trans h3, h4⟩

/-! ## Curves that are periodic by 24 ticks in the end -/

theorem lcm_day {z1 z2 : List Int} {p1 p2 : Nat} {i1 i2 : Int} (g1 : Good z1 p1 i1) (g2 : Good z2 p2 i2) (h1 : Day (eC z1 p1 i1)) (h2 : Day (eC z2 p2 i2)) : ∃ L, L ≤ 120 ∧ LcmN z1 p1 i1 z2 p2 i2 L := by
  obtain ⟨y1, q1, j1, n1⟩ := g1.norm_ex
  obtain ⟨y2, q2, j2, n2⟩ := g2.norm_ex
  exact ⟨q1 / Nat.gcd q1 q2 * q2, by have := day_lcm g1 g2 h1 h2 n1 n2; omega, _, _, _, _, _, _, n1, n2, rfl⟩

section
variable (a1 : Option Addr) (n1 cap1 : Nat) (z1 : List Int) (p1 : Nat) (i1 : Int) (g1 : Good z1 p1 i1) (a2 : Option Addr) (n2 cap2 : Nat) (z2 : List Int) (p2 : Nat) (i2 : Int) (g2 : Good z2 p2 i2) (h1 : Day (eC z1 p1 i1)) (h2 : Day (eC z2 p2 i2))
    (w : World) (r1 : RowZ w a1 n1 cap1 z1) (r2 : RowZ w a2 n2 cap2 z2)
include g1 g2 h1 h2 r1 r2
theorem sum_day : Calls Try.prog 73 #[curV a1 n1 cap1 p1 i1, curV a2 n2 cap2 p2 i2] w (GivesE (eSum z1 p1 i1 z2 p2 i2) w) := by
  obtain ⟨L, hL, hl⟩ := lcm_day g1 g2 h1 h2
  exact sum_ok a1 n1 cap1 z1 p1 i1 g1 a2 n2 cap2 z2 p2 i2 g2 L hl hL w r1 r2
end

theorem BxI.put {u : World} {F : Nat} {a a2 : Option Addr} {n cap n2 cap2 : Nat} {p inc p2 i2 : Int} {zs ys : List Int} (h : BxI u F a n cap p inc zs) (hr : RowZ u a2 n2 cap2 ys) (hx : ∀ x, a2 = some x → 1 ≤ n2 → x.block ≠ F) : BxI (((u.setCell ⟨F, 0, none⟩ (.slice a2 n2 cap2)).setCell ⟨F, 1, none⟩ (.int .i64 p2)).setCell ⟨F, 2, none⟩ (.int .i64 i2)) F a2 n2 cap2 p2 i2 ys :=
  ⟨h.box.set _ _ _, ((hr.store hx _ _).store hx _ _).store hx _ _⟩
theorem BxI.set {u : World} {F G : Nat} {a : Option Addr} {n cap : Nat} {p inc : Int} {zs : List Int} (h : BxI u F a n cap p inc zs) (hF : F ≠ G) (hx : ∀ x, a = some x → 1 ≤ n → x.block ≠ G) (v0 v1 v2 : Value) : BxI (((u.setCell ⟨G, 0, none⟩ v0).setCell ⟨G, 1, none⟩ v1).setCell ⟨G, 2, none⟩ v2) F a n cap p inc zs :=
  ⟨((h.box.other hF _ _).other hF _ _).other hF _ _, ((h.row.store hx _ _).store hx _ _).store hx _ _⟩
theorem Bx.i {u : World} {F : Nat} {a : Option Addr} {n cap p : Nat} {inc : Int} {zs : List Int} (h : Bx u F a n cap p inc zs) : BxI u F a n cap p inc zs := ⟨h.box, h.row⟩
theorem BxI.nat {u : World} {F : Nat} {a : Option Addr} {n cap p : Nat} {inc : Int} {zs : List Int} (h : BxI u F a n cap p inc zs) : Bx u F a n cap p inc zs := ⟨h.box, h.row⟩

theorem MX.ok {E : Nat → Option Int} {zs : List Int} {p inc : Int} (h : MX E zs p inc 0) : ∃ q : Nat, p = q ∧ EForm zs q inc E := by
  rcases h with ⟨_, h⟩ | ⟨h, _⟩
  · exact h
  · exact absurd h (by decide)

end Go.Proofs.Ytknimlpdpgpliaa

namespace Go.Proofs.Ytknimlpdpgpliaa
open Go.RowKit
set_option linter.unusedSimpArgs false

/-! ## Results that may be errors, of arguments that may be -/

/-- A curve in normal form with these values and no error, or the zero curve and an error. -/
def MY (E : Nat → Option Int) (zs : List Int) (p inc c : Int) : Prop := (c = 0 ∧ ∃ q : Nat, p = q ∧ EForm zs q inc E) ∨ (¬ c = 0 ∧ zs = [] ∧ p = 0 ∧ inc = 0)
/-- The same, not in normal form. -/
def MC (E : Nat → Option Int) (zs : List Int) (p inc c : Int) : Prop := (c = 0 ∧ ∃ q : Nat, p = q ∧ Good zs q inc ∧ ∀ t, eC zs q inc t = E t) ∨ (¬ c = 0 ∧ zs = [] ∧ p = 0 ∧ inc = 0)
theorem MY.mc {E : Nat → Option Int} {zs : List Int} {p inc c : Int} (h : MY E zs p inc c) : MC E zs p inc c := by
  rcases h with ⟨h, q, hq, hf⟩ | h
  · exact .inl ⟨h, q, hq, hf.1, hf.2.1⟩
  · exact .inr h
theorem MY.ok {E : Nat → Option Int} {zs : List Int} {p inc : Int} (h : MY E zs p inc 0) : ∃ q : Nat, p = q ∧ EForm zs q inc E := by
  rcases h with ⟨_, h⟩ | ⟨h, _⟩
  · exact h
  · exact absurd rfl h
def GivesY (E : Nat → Option Int) (w : World) (e : Ending) (w' : World) : Prop :=
  ∃ (a : Option Addr) (n cap : Nat) (zs : List Int) (p inc c : Int), e = .returned (.tuple #[curV a n cap p inc, .int .i64 c]) ∧ Below w.heap.size w w' ∧ RowZ w' a n cap zs ∧ MY E zs p inc c ∧ (c = 0 ∨ c = 1 ∨ c = 3) ∧ ∀ x, a = some x → w.heap.size ≤ x.block
theorem rowZ_none (w : World) : RowZ w none 0 0 [] := ⟨rfl, Nat.le_refl _, Nat.zero_le _, by omega, fun i hi => absurd hi (Nat.not_lt_zero _), fun i hi => absurd hi (Nat.not_lt_zero _)⟩
theorem GivesE.y {E : Nat → Option Int} {w w' : World} {e : Ending} (h : GivesE E w e w') : GivesY E w e w' := by
  obtain ⟨hb, ⟨a, n, cap, zs, p, inc, he, hr, hf, hx⟩ | ⟨he, _⟩⟩ := h
  · exact ⟨a, n, cap, zs, p, inc, 0, he, hb, hr, .inl ⟨rfl, p, rfl, hf⟩, .inl rfl, hx⟩
  · exact ⟨none, 0, 0, [], 0, 0, 3, he, hb, rowZ_none _, .inr ⟨by decide, rfl, rfl, rfl⟩, .inr (.inr rfl), fun x hx => by cases hx⟩
theorem MC.in {E : Nat → Option Int} {zs : List Int} {p inc c : Int} (h : MC E zs p inc c) : In64 p ∧ In64 inc := by
  rcases h with ⟨_, q, rfl, g, _⟩ | ⟨_, _, rfl, rfl⟩
  · have := g.p2; have := g.i0; have := g.i1; exact ⟨⟨by omega, by omega⟩, ⟨by omega, by omega⟩⟩
  · exact ⟨⟨by omega, by omega⟩, ⟨by omega, by omega⟩⟩

section
variable {E1 E2 : Nat → Option Int} {a1 : Option Addr} {n1 cap1 : Nat} {z1 : List Int} {p1 i1 k1 : Int} {a2 : Option Addr} {n2 cap2 : Nat} {z2 : List Int} {p2 i2 k2 : Int} (h1 : MC E1 z1 p1 i1 k1) (h2 : MC E2 z2 p2 i2 k2) (d1 : Day E1) (d2 : Day E2)
    (w : World) (r1 : RowZ w a1 n1 cap1 z1) (r2 : RowZ w a2 n2 cap2 z2)
include h1 h2 d1 d2 r1 r2
end

end Go.Proofs.Ytknimlpdpgpliaa
