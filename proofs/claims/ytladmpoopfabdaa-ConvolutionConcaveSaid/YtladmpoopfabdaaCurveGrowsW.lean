/- The walk of CurveGrows. By the verifier's side. -/
import Derived.Test.YtladmpoopfabdaaCurW
import Derived.Test.YtladmpoopfabdaaCurT
import Derived.Test.YtladmpoopfabdaaKeepC
namespace Go.Proofs.Ytladmpoopfabdaa
open Go.RowKit
set_option linter.unusedSimpArgs false

theorem NormC.canon' {zs zs' ys ys' : List Int} {p p' q q' : Nat} {inc inc' jnc jnc' : Int} (h : NormC zs p inc zs' p' inc') (g : Good zs p inc) (k : Good ys q jnc) (l : NormC ys q jnc ys' q' jnc') (he : ∀ t, atC zs p inc t = atC ys q jnc t) : zs' = ys' ∧ p' = q' ∧ inc' = jnc' := h.canon g k l he

/-- Two curves in boxes F and G, and their rows. -/
structure Two (w : World) (F : Nat) (a : Option Addr) (n cap p : Nat) (inc : Int) (zs : List Int) (G : Nat) (b : Option Addr) (m cup q : Nat) (jnc : Int) (ys : List Int) : Prop where
  bx : Cur3 w F (.slice a n cap) (.int .i64 p) (.int .i64 inc)
  rx : RowZ w a n cap zs
  by' : Cur3 w G (.slice b m cup) (.int .i64 q) (.int .i64 jnc)
  ry : RowZ w b m cup ys
section
variable {w w' : World} {F : Nat} {a : Option Addr} {n cap p : Nat} {inc : Int} {zs : List Int} {G : Nat} {b : Option Addr} {m cup q : Nat} {jnc : Int} {ys : List Int}
theorem Two.under (h : Two w F a n cap p inc zs G b m cup q jnc ys) (hb : Below w.heap.size w w') : Two w' F a n cap p inc zs G b m cup q jnc ys :=
  ⟨h.bx.below hb, h.rx.under hb, h.by'.below hb, h.ry.under hb⟩

/-- The cells of both boxes behind something that leaves them alone. -/
abbrev TwoS (W : World) (F : Nat) (a : Option Addr) (n cap p : Nat) (inc : Int) (zs : List Int) (G : Nat) (b : Option Addr) (m cup q : Nat) (jnc : Int) (ys : List Int) (w' : World) : Prop :=
  w'.cell? ⟨F, 0, none⟩ = some (.slice a n cap) ∧ w'.cell? ⟨F, 1, none⟩ = some (.int .i64 p) ∧ w'.cell? ⟨F, 2, none⟩ = some (.int .i64 inc) ∧
  w'.cell? ⟨G, 0, none⟩ = some (.slice b m cup) ∧ w'.cell? ⟨G, 1, none⟩ = some (.int .i64 q) ∧ Hid (Below W.heap.size W w' ∧ Two w' F a n cap p inc zs G b m cup q jnc ys)
theorem two_s {W : World} (h : Two w' F a n cap p inc zs G b m cup q jnc ys) (hb : Below W.heap.size W w') : TwoS W F a n cap p inc zs G b m cup q jnc ys w' :=
  ⟨h.bx.c0, h.bx.c1, h.bx.c2, h.by'.c0, h.by'.c1, hb, h⟩
theorem two_of {W : World} (h : TwoS W F a n cap p inc zs G b m cup q jnc ys w') : Two w' F a n cap p inc zs G b m cup q jnc ys := h.2.2.2.2.2.out.2
theorem two_below {W : World} (h : TwoS W F a n cap p inc zs G b m cup q jnc ys w') : Below W.heap.size W w' := h.2.2.2.2.2.out.1
theorem two_drew {W : World} (h : Two W F a n cap p inc zs G b m cup q jnc ys) : TwoS W F a n cap p inc zs G b m cup q jnc ys W.drew :=
  two_s (h.under (Below.refl _ _).drew) (Below.refl _ _).drew
theorem two_call {W u v : World} (h : TwoS W F a n cap p inc zs G b m cup q jnc ys u) (hb : Below u.heap.size u v) : TwoS W F a n cap p inc zs G b m cup q jnc ys v :=
  two_s ((two_of h).under hb) ((two_below h).trans (hb.mono (two_below h).size))
end

/-- What a finite curve and its normal form have to do with each other. -/
theorem norm_fin {zs zs' : List Int} {p p' : Nat} {inc inc' : Int} (g : Good zs p inc) (hf : ¬ zs.getD (zs.length - 1) 0 = infV) (h : NormC zs p inc zs' p' inc') {s : Nat} (hs : zs'.length = s + p') :
    (∀ t, s ≤ t → atC zs p inc (t + p') = atC zs p inc t + inc') ∧ ∃ k : Nat, 1 ≤ k ∧ p = k * p' ∧ inc = (k : Int) * inc' := by
  rcases h with ⟨_, s0, hn, rfl, hle, hpp⟩ | ⟨i, hi, he, _⟩
  · have hl : (zs.take (s0 + p')).length = s0 + p' := by rw [List.length_take]; omega
    obtain rfl : s0 = s := by omega
    obtain ⟨h0, h1⟩ := hn.divides (g.per hf)
    refine ⟨hn.per, p / p', ?_, ?_, h1⟩
    · exact Nat.div_pos hpp hn.pos
    · have := Nat.mod_add_div p p'
      rw [h0, Nat.zero_add, Nat.mul_comm] at this
      exact this.symm
  · exact absurd (g.inf_iff.1 ⟨i, hi, he⟩) hf

theorem slope_eq {x y inc inc' : Int} {p p' k : Nat} (hk : 1 ≤ k) (hp : p = k * p') (hi : inc = (k : Int) * inc') (h : x * (p : Int) = y * inc) : x * (p' : Int) = y * inc' := by
  subst hp hi
  have hk0 : (k : Int) ≠ 0 := by omega
  refine Int.eq_of_mul_eq_mul_left hk0 ?_
  rw [Int.natCast_mul] at h
  grind

end Go.Proofs.Ytladmpoopfabdaa
