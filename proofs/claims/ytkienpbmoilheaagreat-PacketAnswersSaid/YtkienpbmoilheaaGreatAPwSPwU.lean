/- The chapter's examples (awake). By the verifier's side. | The operations' contracts as the walks use them: results in boxes, results that may be errors. By the verifier's side. -/
import Derived.Test.YtkienpbmoilheaaGreatAPwEKeepTPwFPwG
import Derived.Test.YtkienpbmoilheaaGreatACurWToCurveGrowsW
import Derived.Test.YtkienpbmoilheaaGreatACurMToDecM
import Derived.Test.YtkienpbmoilheaaGreatACurSLongKeepC
namespace Go.Proofs.YtkienpbmoilheaaGreat
open Go.RowKit
set_option linter.unusedSimpArgs false

end Go.Proofs.YtkienpbmoilheaaGreat

namespace Go.Proofs.YtkienpbmoilheaaGreat
open Go.RowKit
set_option linter.unusedSimpArgs false

theorem GivesE.no {E : Nat → Option Int} (hc : ¬ ECan E) {w w' : World} {e : Ending} (h : GivesE E w e w') : e = .returned (.tuple #[curV none 0 0 0 0, .int .i64 3]) ∧ Below w.heap.size w w' := by
  obtain ⟨hb, ⟨a, n, cap, zs, p, inc, he, hr, hf, hx⟩ | ⟨he, _⟩⟩ := h
  · exact absurd hf.can hc
  · exact ⟨he, hb⟩

theorem Bx.set {u : World} {F G : Nat} {a : Option Addr} {n cap p : Nat} {inc : Int} {zs : List Int} (h : Bx u F a n cap p inc zs) (hF : F ≠ G) (hx : ∀ x, a = some x → 1 ≤ n → x.block ≠ G) (v0 v1 v2 : Value) : Bx (((u.setCell ⟨G, 0, none⟩ v0).setCell ⟨G, 1, none⟩ v1).setCell ⟨G, 2, none⟩ v2) F a n cap p inc zs :=
  ⟨((h.box.other hF _ _).other hF _ _).other hF _ _, ((h.row.store hx _ _).store hx _ _).store hx _ _⟩
theorem Bx.put {u : World} {F : Nat} {a a2 : Option Addr} {n cap p n2 cap2 q : Nat} {inc jnc : Int} {zs ys : List Int} (h : Bx u F a n cap p inc zs) (hr : RowZ u a2 n2 cap2 ys) (hx : ∀ x, a2 = some x → 1 ≤ n2 → x.block ≠ F) : Bx (((u.setCell ⟨F, 0, none⟩ (.slice a2 n2 cap2)).setCell ⟨F, 1, none⟩ (.int .i64 q)).setCell ⟨F, 2, none⟩ (.int .i64 jnc)) F a2 n2 cap2 q jnc ys :=
  ⟨h.box.set _ _ _, ((hr.store hx _ _).store hx _ _).store hx _ _⟩

/-- A curve with these values and no error, or the zero curve and the error's number. -/
def MX (E : Nat → Option Int) (zs : List Int) (p inc c : Int) : Prop := (c = 0 ∧ ∃ q : Nat, p = q ∧ EForm zs q inc E) ∨ (c = 3 ∧ zs = [] ∧ p = 0 ∧ inc = 0)
/-- A curve in a box, with whatever numbers. -/
structure BxI (u : World) (F : Nat) (a : Option Addr) (n cap : Nat) (p inc : Int) (zs : List Int) : Prop where
  box : Cur3 u F (.slice a n cap) (.int .i64 p) (.int .i64 inc)
  row : RowZ u a n cap zs
theorem BxI.under {u v : World} {F : Nat} {a : Option Addr} {n cap : Nat} {p inc : Int} {zs : List Int} (h : BxI u F a n cap p inc zs) (hb : Below u.heap.size u v) : BxI v F a n cap p inc zs := ⟨h.box.below hb, h.row.under hb⟩
theorem BxI.new {w : World} {a : Option Addr} {n cap : Nat} {p inc : Int} {zs : List Int} (h : RowZ w a n cap zs) : BxI (w.alloc (.cells #[.slice a n cap, .int .i64 p, .int .i64 inc] 24)) w.heap.size a n cap p inc zs := ⟨Cur3.new _ _ _ _ _, h.alloc _⟩

theorem Bx.apart {u v : World} {F b : Nat} {a : Option Addr} {n cap p : Nat} {inc : Int} {zs : List Int} (h : Bx u F a n cap p inc zs) (ha : Apart b u v) (hF : F ≠ b) (hx : ∀ x, a = some x → ¬ x.block = b) : Bx v F a n cap p inc zs := ⟨h.box.apart ha hF, h.row.apart ha hx⟩
theorem BxI.apart {u v : World} {F b : Nat} {a : Option Addr} {n cap : Nat} {p inc : Int} {zs : List Int} (h : BxI u F a n cap p inc zs) (ha : Apart b u v) (hF : F ≠ b) (hx : ∀ x, a = some x → ¬ x.block = b) : BxI v F a n cap p inc zs := ⟨h.box.apart ha hF, h.row.apart ha hx⟩
/-! ## Curves that are periodic by 24 ticks in the end -/

section
variable (a1 : Option Addr) (n1 cap1 : Nat) (z1 : List Int) (p1 : Nat) (i1 : Int) (g1 : Good z1 p1 i1) (a2 : Option Addr) (n2 cap2 : Nat) (z2 : List Int) (p2 : Nat) (i2 : Int) (g2 : Good z2 p2 i2) (h1 : Day (eC z1 p1 i1)) (h2 : Day (eC z2 p2 i2))
    (w : World) (r1 : RowZ w a1 n1 cap1 z1) (r2 : RowZ w a2 n2 cap2 z2)
include g1 g2 h1 h2 r1 r2
end

theorem BxI.put {u : World} {F : Nat} {a a2 : Option Addr} {n cap n2 cap2 : Nat} {p inc p2 i2 : Int} {zs ys : List Int} (h : BxI u F a n cap p inc zs) (hr : RowZ u a2 n2 cap2 ys) (hx : ∀ x, a2 = some x → 1 ≤ n2 → x.block ≠ F) : BxI (((u.setCell ⟨F, 0, none⟩ (.slice a2 n2 cap2)).setCell ⟨F, 1, none⟩ (.int .i64 p2)).setCell ⟨F, 2, none⟩ (.int .i64 i2)) F a2 n2 cap2 p2 i2 ys :=
  ⟨h.box.set _ _ _, ((hr.store hx _ _).store hx _ _).store hx _ _⟩
theorem BxI.set {u : World} {F G : Nat} {a : Option Addr} {n cap : Nat} {p inc : Int} {zs : List Int} (h : BxI u F a n cap p inc zs) (hF : F ≠ G) (hx : ∀ x, a = some x → 1 ≤ n → x.block ≠ G) (v0 v1 v2 : Value) : BxI (((u.setCell ⟨G, 0, none⟩ v0).setCell ⟨G, 1, none⟩ v1).setCell ⟨G, 2, none⟩ v2) F a n cap p inc zs :=
  ⟨((h.box.other hF _ _).other hF _ _).other hF _ _, ((h.row.store hx _ _).store hx _ _).store hx _ _⟩
theorem Bx.i {u : World} {F : Nat} {a : Option Addr} {n cap p : Nat} {inc : Int} {zs : List Int} (h : Bx u F a n cap p inc zs) : BxI u F a n cap p inc zs := ⟨h.box, h.row⟩
theorem MX.ok {E : Nat → Option Int} {zs : List Int} {p inc : Int} (h : MX E zs p inc 0) : ∃ q : Nat, p = q ∧ EForm zs q inc E := by
  rcases h with ⟨_, h⟩ | ⟨h, _⟩
  · exact h
  · exact absurd h (by decide)

end Go.Proofs.YtkienpbmoilheaaGreat

namespace Go.Proofs.YtkienpbmoilheaaGreat
open Go.RowKit
set_option linter.unusedSimpArgs false

/-- The zero curve is handed back, and an error. -/
def GivesBad (c : Int) (w : World) (e : Ending) (w' : World) : Prop := e = .returned (.tuple #[curV none 0 0 0 0, .int .i64 c]) ∧ Below w.heap.size w w'

theorem GivesBad.post {w w1 w2 : World} {b : Nat} (hB : Below w.heap.size w w1) (hb1 : w.heap.size ≤ b) (h2 : Below w1.heap.size w1 w2) (c : Int) :
    GivesBad c w (.returned (.tuple #[curV none 0 0 0 0, .int .i64 c])) (((w2.setCell ⟨b, 0, none⟩ (.slice none 0 0)).setCell ⟨b, 1, none⟩ (.int .i64 0)).setCell ⟨b, 2, none⟩ (.int .i64 0)) :=
  ⟨rfl, below_set3 (hB.trans (h2.mono hB.size)) hb1 _ _ _⟩

/-! ## Results that may be errors, of arguments that may be -/

/-- A curve in normal form with these values and no error, or the zero curve and an error. -/
def MY (E : Nat → Option Int) (zs : List Int) (p inc c : Int) : Prop := (c = 0 ∧ ∃ q : Nat, p = q ∧ EForm zs q inc E) ∨ (¬ c = 0 ∧ zs = [] ∧ p = 0 ∧ inc = 0)
/-- The same, not in normal form. -/
def MC (E : Nat → Option Int) (zs : List Int) (p inc c : Int) : Prop := (c = 0 ∧ ∃ q : Nat, p = q ∧ Good zs q inc ∧ ∀ t, eC zs q inc t = E t) ∨ (¬ c = 0 ∧ zs = [] ∧ p = 0 ∧ inc = 0)
theorem MY.mc {E : Nat → Option Int} {zs : List Int} {p inc c : Int} (h : MY E zs p inc c) : MC E zs p inc c := by
  rcases h with ⟨h, q, hq, hf⟩ | h
  · exact .inl ⟨h, q, hq, hf.1, hf.2.1⟩
  · exact .inr h
theorem MY.ok {E : Nat → Option Int} {zs : List Int} {p inc : Int} (h : MY E zs p inc 0) : ∃ q : Nat, p = q ∧ EForm zs q inc E := by
  rcases h with ⟨_, h⟩ | ⟨h, _⟩
  · exact h
  · exact absurd rfl h
def GivesY (E : Nat → Option Int) (w : World) (e : Ending) (w' : World) : Prop :=
  ∃ (a : Option Addr) (n cap : Nat) (zs : List Int) (p inc c : Int), e = .returned (.tuple #[curV a n cap p inc, .int .i64 c]) ∧ Below w.heap.size w w' ∧ RowZ w' a n cap zs ∧ MY E zs p inc c ∧ (c = 0 ∨ c = 1 ∨ c = 3) ∧ ∀ x, a = some x → w.heap.size ≤ x.block
theorem rowZ_none (w : World) : RowZ w none 0 0 [] := ⟨rfl, Nat.le_refl _, Nat.zero_le _, by omega, fun i hi => absurd hi (Nat.not_lt_zero _), fun i hi => absurd hi (Nat.not_lt_zero _)⟩
theorem GivesE.y {E : Nat → Option Int} {w w' : World} {e : Ending} (h : GivesE E w e w') : GivesY E w e w' := by
  obtain ⟨hb, ⟨a, n, cap, zs, p, inc, he, hr, hf, hx⟩ | ⟨he, _⟩⟩ := h
  · exact ⟨a, n, cap, zs, p, inc, 0, he, hb, hr, .inl ⟨rfl, p, rfl, hf⟩, .inl rfl, hx⟩
  · exact ⟨none, 0, 0, [], 0, 0, 3, he, hb, rowZ_none _, .inr ⟨by decide, rfl, rfl, rfl⟩, .inr (.inr rfl), fun x hx => by cases hx⟩
theorem GivesBad.y {E : Nat → Option Int} {c : Int} {w w' : World} {e : Ending} (h : GivesBad c w e w') (hc : c = 1 ∨ c = 3) : GivesY E w e w' :=
  ⟨none, 0, 0, [], 0, 0, c, h.1, h.2, rowZ_none _, .inr ⟨by omega, rfl, rfl, rfl⟩, .inr hc, fun x hx => by cases hx⟩
theorem MC.in {E : Nat → Option Int} {zs : List Int} {p inc c : Int} (h : MC E zs p inc c) : In64 p ∧ In64 inc := by
  rcases h with ⟨_, q, rfl, g, _⟩ | ⟨_, _, rfl, rfl⟩
  · have := g.p2; have := g.i0; have := g.i1; exact ⟨⟨by omega, by omega⟩, ⟨by omega, by omega⟩⟩
  · exact ⟨⟨by omega, by omega⟩, ⟨by omega, by omega⟩⟩

section
variable {E1 E2 : Nat → Option Int} {a1 : Option Addr} {n1 cap1 : Nat} {z1 : List Int} {p1 i1 k1 : Int} {a2 : Option Addr} {n2 cap2 : Nat} {z2 : List Int} {p2 i2 k2 : Int} (h1 : MC E1 z1 p1 i1 k1) (h2 : MC E2 z2 p2 i2 k2) (d1 : Day E1) (d2 : Day E2)
    (w : World) (r1 : RowZ w a1 n1 cap1 z1) (r2 : RowZ w a2 n2 cap2 z2)
include h1 h2 d1 d2 r1 r2
end

end Go.Proofs.YtkienpbmoilheaaGreat
