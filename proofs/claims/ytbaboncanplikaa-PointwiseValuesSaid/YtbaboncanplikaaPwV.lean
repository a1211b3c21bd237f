/- Contracts for PointwiseValues: plus of the statement, Maximum, values of a curve or of the zero curve. By the verifier's side. -/
import Derived.Test.YtbaboncanplikaaPointwiseScalesW
import Derived.Test.YtbaboncanplikaaRefA
namespace Go.Proofs.Ytbaboncanplikaa
open Go.RowKit
set_option linter.unusedSimpArgs false

set_option maxHeartbeats 400000 in
theorem lplus_any (a b : Int) (ha : Mid a) (hb : Mid b) (w : World) : Calls Try.prog 42 #[.int .i64 a, .int .i64 b] w fun e w' => e = .returned (.int .i64 (plI a b)) ∧ w' = w := by
  obtain ⟨a1, a2, a3⟩ := ha.bd
  obtain ⟨b1, b2, b3⟩ := hb.bd
  by_cases h1 : a = 4611686018427387904
  · subst h1
    have e : plI 4611686018427387904 b = 4611686018427387904 := plI_l b
    rw [e]
    clear ha hb
    go_enter Try.func42, Try.ntmps42
    go_wp2_with fail
    go_ret
    exact ⟨rfl, rfl⟩
  · by_cases h2 : b = 4611686018427387904
    · subst h2
      have e : plI a 4611686018427387904 = 4611686018427387904 := plI_r a
      rw [e]
      have t1 : (a == 4611686018427387904) = false := by simpa using h1
      clear ha hb h1
      go_enter Try.func42, Try.ntmps42
      go_wp2_with fail
      go_ret
      exact ⟨rfl, rfl⟩
    · have e : plI a b = a + b := plI_fin h1 h2
      rw [e]
      have t1 : (a == 4611686018427387904) = false := by simpa using h1
      have t2 : (b == 4611686018427387904) = false := by simpa using h2
      have a4 : a ≤ 1125899906842624 := by omega
      have b4 : b ≤ 1125899906842624 := by omega
      clear ha hb h1 h2 a3 b3 e
      go_enter Try.func42, Try.ntmps42
      go_wp2_with fail
      go_ret
      exact ⟨rfl, rfl⟩

theorem max_at (a1 : Option Addr) (n1 cap1 : Nat) (z1 : List Int) (p1 : Nat) (i1 : Int) (g1 : Good z1 p1 i1) (a2 : Option Addr) (n2 cap2 : Nat) (z2 : List Int) (p2 : Nat) (i2 : Int) (g2 : Good z2 p2 i2) (h1 : p1 ≤ 10) (h2 : p2 ≤ 10) {E : Nat → Option Int} (hE : eMax z1 p1 i1 z2 p2 i2 = E)
    (w : World) (r1 : RowZ w a1 n1 cap1 z1) (r2 : RowZ w a2 n2 cap2 z2) : Calls Try.prog 24 #[curV a1 n1 cap1 p1 i1, curV a2 n2 cap2 p2 i2] w (GivesE E w) := by
  obtain ⟨L, hL, hl⟩ := lcm_small g1 g2 h1 h2
  subst hE; exact max_ok a1 n1 cap1 z1 p1 i1 g1 a2 n2 cap2 z2 p2 i2 g2 L hl hL w r1 r2

/-- A curve with these values and no error, or the zero curve and the error's number. -/
def MX (E : Nat → Option Int) (zs : List Int) (p inc c : Int) : Prop := (c = 0 ∧ ∃ q : Nat, p = q ∧ EForm zs q inc E) ∨ (c = 3 ∧ zs = [] ∧ p = 0 ∧ inc = 0)
def GivesMX (E : Nat → Option Int) (w : World) (e : Ending) (w' : World) : Prop :=
  ∃ (a : Option Addr) (n cap : Nat) (zs : List Int) (p inc c : Int), e = .returned (.tuple #[curV a n cap p inc, .int .i64 c]) ∧ Below w.heap.size w w' ∧ RowZ w' a n cap zs ∧ MX E zs p inc c ∧ (c = 0 ∨ c = 3) ∧ ∀ x, a = some x → w.heap.size ≤ x.block
theorem GivesE.mx {E : Nat → Option Int} {w w' : World} {e : Ending} (h : GivesE E w e w') : GivesMX E w e w' := by
  obtain ⟨hb, ⟨a, n, cap, zs, p, inc, he, hr, hf, hx⟩ | ⟨he, _⟩⟩ := h
  · exact ⟨a, n, cap, zs, p, inc, 0, he, hb, hr, .inl ⟨rfl, p, rfl, hf⟩, .inl rfl, hx⟩
  · exact ⟨none, 0, 0, [], 0, 0, 3, he, hb, ⟨rfl, Nat.le_refl _, Nat.zero_le _, by omega, fun i hi => absurd hi (Nat.not_lt_zero _), fun i hi => absurd hi (Nat.not_lt_zero _)⟩, .inr ⟨rfl, rfl, rfl, rfl⟩, .inr rfl, fun x hx => by cases hx⟩

/-- A curve in a box, with whatever numbers. -/
structure BxI (u : World) (F : Nat) (a : Option Addr) (n cap : Nat) (p inc : Int) (zs : List Int) : Prop where
  box : Cur3 u F (.slice a n cap) (.int .i64 p) (.int .i64 inc)
  row : RowZ u a n cap zs
theorem BxI.under {u v : World} {F : Nat} {a : Option Addr} {n cap : Nat} {p inc : Int} {zs : List Int} (h : BxI u F a n cap p inc zs) (hb : Below u.heap.size u v) : BxI v F a n cap p inc zs := ⟨h.box.below hb, h.row.under hb⟩
theorem BxI.new {w : World} {a : Option Addr} {n cap : Nat} {p inc : Int} {zs : List Int} (h : RowZ w a n cap zs) : BxI (w.alloc (.cells #[.slice a n cap, .int .i64 p, .int .i64 inc] 24)) w.heap.size a n cap p inc zs := ⟨Cur3.new _ _ _ _ _, h.alloc _⟩

theorem Bx.apart {u v : World} {F b : Nat} {a : Option Addr} {n cap p : Nat} {inc : Int} {zs : List Int} (h : Bx u F a n cap p inc zs) (ha : Apart b u v) (hF : F ≠ b) (hx : ∀ x, a = some x → ¬ x.block = b) : Bx v F a n cap p inc zs := ⟨h.box.apart ha hF, h.row.apart ha hx⟩
theorem BxI.apart {u v : World} {F b : Nat} {a : Option Addr} {n cap : Nat} {p inc : Int} {zs : List Int} (h : BxI u F a n cap p inc zs) (ha : Apart b u v) (hF : F ≠ b) (hx : ∀ x, a = some x → ¬ x.block = b) : BxI v F a n cap p inc zs := ⟨h.box.apart ha hF, h.row.apart ha hx⟩
theorem mid_far {zs : List Int} {p : Nat} {inc : Int} (g : Good zs p inc) {t : Nat} (ht : t < 1048576) : Mid (atC zs p inc t) := by
  rcases g.seen (t := t) (by omega) with h | ⟨_, h2, h3⟩
  · exact .inl h.2
  · exact .inr ⟨h2, by omega⟩
theorem val_of {zs : List Int} {p : Nat} {inc x : Int} {E : Nat → Option Int} (h : ∀ t, eC zs p inc t = E t) {t : Nat} (he : enc (E t) = x) : atC zs p inc t = x := by rw [← enc_eC, h, he]
theorem src_under {w w' : World} {b : Nat} {a : Option Addr} {n cap : Nat} (h : SrcAt w b a n cap) (hb : Below w.heap.size w w') : SrcAt w' b a n cap := by
  have hl := h.lt
  obtain ⟨⟨k, hk, hs⟩, hf, hr⟩ := h
  refine ⟨⟨k, hk, (hb.block b hl).trans hs⟩, hf, fun i hi => ?_⟩
  obtain ⟨x, z, h1, h2, h3, h4⟩ := hr i hi
  exact ⟨x, z, h1, h2, (hb.cell (lt_of_cell h3)).trans h3, h4⟩

/-- What stands while the ticks are gone through: five curves in boxes, and the ticks. -/
structure Five (u : World) (Ff Fg Fp Fq Fr T : Nat) (af : Option Addr) (nf capf pf : Nat) (jf : Int) (zf : List Int) (ag : Option Addr) (ng capg pg : Nat) (jg : Int) (zg : List Int) (a1 : Option Addr) (n1 cap1 p1 : Nat) (i1 : Int) (z1 : List Int)
    (a2 : Option Addr) (n2 cap2 : Nat) (p2 i2 : Int) (z2 : List Int) (a3 : Option Addr) (n3 cap3 : Nat) (p3 i3 : Int) (z3 : List Int) (ts : List Int) : Prop where
  f : Bx u Ff af nf capf pf jf zf
  g : Bx u Fg ag ng capg pg jg zg
  p : Bx u Fp a1 n1 cap1 p1 i1 z1
  q : BxI u Fq a2 n2 cap2 p2 i2 z2
  r : BxI u Fr a3 n3 cap3 p3 i3 z3
  t : RowZ u (some ⟨T, 0, none⟩) 4 4 ts
theorem Five.under {u v : World} {Ff Fg Fp Fq Fr T : Nat} {af : Option Addr} {nf capf pf : Nat} {jf : Int} {zf : List Int} {ag : Option Addr} {ng capg pg : Nat} {jg : Int} {zg : List Int} {a1 : Option Addr} {n1 cap1 p1 : Nat} {i1 : Int} {z1 : List Int}
    {a2 : Option Addr} {n2 cap2 : Nat} {p2 i2 : Int} {z2 : List Int} {a3 : Option Addr} {n3 cap3 : Nat} {p3 i3 : Int} {z3 ts : List Int} (h : Five u Ff Fg Fp Fq Fr T af nf capf pf jf zf ag ng capg pg jg zg a1 n1 cap1 p1 i1 z1 a2 n2 cap2 p2 i2 z2 a3 n3 cap3 p3 i3 z3 ts) (hb : Below u.heap.size u v) :
    Five v Ff Fg Fp Fq Fr T af nf capf pf jf zf ag ng capg pg jg zg a1 n1 cap1 p1 i1 z1 a2 n2 cap2 p2 i2 z2 a3 n3 cap3 p3 i3 z3 ts := ⟨h.f.under hb, h.g.under hb, h.p.under hb, h.q.under hb, h.r.under hb, h.t.under hb⟩

theorem value_mx {E : Nat → Option Int} {a : Option Addr} {n cap : Nat} {zs : List Int} {p inc c : Int} (h : MX E zs p inc c) (t : Nat) (ht : t ≤ 1048576) (v : Int) (hv : v = if c = 0 then enc (E t) else 0) (d : Int) (hd : d = if c = 0 then 0 else 1) (w : World) (hr : RowZ w a n cap zs) :
    Calls Try.prog 41 #[curV a n cap p inc, .int .i64 t] w (Pair v d w) := by
  rcases h with ⟨rfl, q, rfl, hf⟩ | ⟨rfl, rfl, rfl, rfl⟩
  · rw [if_pos rfl] at hv hd
    subst hd
    exact value_at a n cap zs q inc hf.good t t rfl ht v (by rw [hv, ← hf.val, enc_eC]) w hr
  · rw [if_neg (by decide)] at hv hd
    subst hv hd
    exact value_bad a n cap [] 0 0 ⟨by omega, by omega⟩ ⟨by omega, by omega⟩ (by decide) t w hr

end Go.Proofs.Ytbaboncanplikaa
