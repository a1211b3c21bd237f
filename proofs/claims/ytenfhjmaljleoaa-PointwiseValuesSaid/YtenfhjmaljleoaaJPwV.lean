/- Contracts for PointwiseValues: plus of the statement, Maximum, values of a curve or of the zero curve. By the verifier's side. -/
import Derived.Test.YtenfhjmaljleoaaJPwS
import Derived.Test.YtenfhjmaljleoaaJRefA
namespace Go.Proofs.Ytenfhjmaljleoaa
open Go.RowKit
set_option linter.unusedSimpArgs false

set_option maxHeartbeats 400000 in
theorem lplus_any (a b : Int) (ha : Mid a) (hb : Mid b) (w : World) : Calls Try.prog 89 #[.int .i64 a, .int .i64 b] w fun e w' => e = .returned (.int .i64 (plI a b)) ∧ w' = w := by
  obtain ⟨a1, a2, a3⟩ := ha.bd
  obtain ⟨b1, b2, b3⟩ := hb.bd
  by_cases h1 : a = 4611686018427387904
  · subst h1
    have e : plI 4611686018427387904 b = 4611686018427387904 := plI_l b
    rw [e]
    clear ha hb
    go_enter Try.func89, Try.ntmps89
    go_wp2_with fail
    go_ret
    exact ⟨rfl, rfl⟩
  · by_cases h2 : b = 4611686018427387904
    · subst h2
      have e : plI a 4611686018427387904 = 4611686018427387904 := plI_r a
      rw [e]
      have t1 : (a == 4611686018427387904) = false := by simpa using h1
      clear ha hb h1
      go_enter Try.func89, Try.ntmps89
      go_wp2_with fail
      go_ret
      exact ⟨rfl, rfl⟩
    · have e : plI a b = a + b := plI_fin h1 h2
      rw [e]
      have t1 : (a == 4611686018427387904) = false := by simpa using h1
      have t2 : (b == 4611686018427387904) = false := by simpa using h2
      have a4 : a ≤ 1125899906842624 := by omega
      have b4 : b ≤ 1125899906842624 := by omega
      clear ha hb h1 h2 a3 b3 e
      go_enter Try.func89, Try.ntmps89
      go_wp2_with fail
      go_ret
      exact ⟨rfl, rfl⟩

/-- What stands while the ticks are gone through: five curves in boxes, and the ticks. -/
structure Five (u : World) (Ff Fg Fp Fq Fr T : Nat) (af : Option Addr) (nf capf pf : Nat) (jf : Int) (zf : List Int) (ag : Option Addr) (ng capg pg : Nat) (jg : Int) (zg : List Int) (a1 : Option Addr) (n1 cap1 p1 : Nat) (i1 : Int) (z1 : List Int)
    (a2 : Option Addr) (n2 cap2 : Nat) (p2 i2 : Int) (z2 : List Int) (a3 : Option Addr) (n3 cap3 : Nat) (p3 i3 : Int) (z3 : List Int) (ts : List Int) : Prop where
  f : Bx u Ff af nf capf pf jf zf
  g : Bx u Fg ag ng capg pg jg zg
  p : Bx u Fp a1 n1 cap1 p1 i1 z1
  q : BxI u Fq a2 n2 cap2 p2 i2 z2
  r : BxI u Fr a3 n3 cap3 p3 i3 z3
  t : RowZ u (some ⟨T, 0, none⟩) 4 4 ts
theorem Five.under {u v : World} {Ff Fg Fp Fq Fr T : Nat} {af : Option Addr} {nf capf pf : Nat} {jf : Int} {zf : List Int} {ag : Option Addr} {ng capg pg : Nat} {jg : Int} {zg : List Int} {a1 : Option Addr} {n1 cap1 p1 : Nat} {i1 : Int} {z1 : List Int}
    {a2 : Option Addr} {n2 cap2 : Nat} {p2 i2 : Int} {z2 : List Int} {a3 : Option Addr} {n3 cap3 : Nat} {p3 i3 : Int} {z3 ts : List Int} (h : Five u Ff Fg Fp Fq Fr T af nf capf pf jf zf ag ng capg pg jg zg a1 n1 cap1 p1 i1 z1 a2 n2 cap2 p2 i2 z2 a3 n3 cap3 p3 i3 z3 ts) (hb : Below u.heap.size u v) :
    Five v Ff Fg Fp Fq Fr T af nf capf pf jf zf ag ng capg pg jg zg a1 n1 cap1 p1 i1 z1 a2 n2 cap2 p2 i2 z2 a3 n3 cap3 p3 i3 z3 ts := ⟨h.f.under hb, h.g.under hb, h.p.under hb, h.q.under hb, h.r.under hb, h.t.under hb⟩

theorem value_mx {E : Nat → Option Int} {a : Option Addr} {n cap : Nat} {zs : List Int} {p inc c : Int} (h : MX E zs p inc c) (t : Nat) (ht : t ≤ 1048576) (v : Int) (hv : v = if c = 0 then enc (E t) else 0) (d : Int) (hd : d = if c = 0 then 0 else 1) (w : World) (hr : RowZ w a n cap zs) :
    Calls Try.prog 88 #[curV a n cap p inc, .int .i64 t] w (Pair v d w) := by
  rcases h with ⟨rfl, q, rfl, hf⟩ | ⟨rfl, rfl, rfl, rfl⟩
  · rw [if_pos rfl] at hv hd
    subst hd
    exact value_at a n cap zs q inc hf.good t t rfl ht v (by rw [hv, ← hf.val, enc_eC]) w hr
  · rw [if_neg (by decide)] at hv hd
    subst hv hd
    exact value_bad a n cap [] 0 0 ⟨by omega, by omega⟩ ⟨by omega, by omega⟩ (by decide) t w hr

end Go.Proofs.Ytenfhjmaljleoaa
