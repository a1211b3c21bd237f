/- Contracts of package pointwise: Sum, Minimum, Maximum; the chapter's examples. By the verifier's side. -/
import Derived.Test.YtladmpoopfabdaaPwF
import Derived.Test.YtladmpoopfabdaaPwX
import Derived.Test.YtladmpoopfabdaaCurW
namespace Go.Proofs.Ytladmpoopfabdaa
open Go.RowKit
set_option linter.unusedSimpArgs false

/-- The curve in normal form with the values E is handed back, with no error. -/
def GivesOk (E : Nat → Option Int) (w : World) (e : Ending) (w' : World) : Prop :=
  ∃ (a : Option Addr) (n cap : Nat) (zs : List Int) (p : Nat) (inc : Int), e = .returned (.tuple #[curV a n cap p inc, .int .i64 0]) ∧ Below w.heap.size w w' ∧ RowZ w' a n cap zs ∧ EForm zs p inc E ∧ ∀ x, a = some x → w.heap.size ≤ x.block

theorem GivesE.ok {E : Nat → Option Int} (hc : ECan E) {w w' : World} {e : Ending} (h : GivesE E w e w') : GivesOk E w e w' := by
  obtain ⟨hb, ⟨a, n, cap, zs, p, inc, he, hr, hf, hx⟩ | ⟨_, hno⟩⟩ := h
  · exact ⟨a, n, cap, zs, p, inc, he, hb, hr, hf, hx⟩
  · exact absurd hc hno

theorem GivesE.to {E E' : Nat → Option Int} (h : E = E') {w w' : World} {e : Ending} (k : GivesE E w e w') : GivesE E' w e w' := h ▸ k

theorem GivesE.post {E : Nat → Option Int} {w w1 w2 : World} {b : Nat} (hB : Below w.heap.size w w1) (hb1 : w.heap.size ≤ b) (hb2 : b < w1.heap.size) (h2 : Below w1.heap.size w1 w2) {a : Option Addr} {n cap : Nat} {zs : List Int} {p : Nat} {inc : Int} (hr : RowZ w2 a n cap zs)
    (hx : ∀ x, a = some x → w1.heap.size ≤ x.block) (hf : EForm zs p inc E) :
    GivesE E w (.returned (.tuple #[curV a n cap p inc, .int .i64 0])) (((w2.setCell ⟨b, 0, none⟩ (.slice a n cap)).setCell ⟨b, 1, none⟩ (.int .i64 p)).setCell ⟨b, 2, none⟩ (.int .i64 inc)) := by
  have hne : ∀ x : Addr, a = some x → 1 ≤ n → x.block ≠ b := fun x h _ => by have := hx x h; omega
  exact ⟨below_set3 (hB.trans (h2.mono hB.size)) hb1 _ _ _, .inl ⟨a, n, cap, zs, p, inc, rfl, ((hr.store hne _ _).store hne _ _).store hne _ _, hf, fun x h => by have := hx x h; have := hB.size; omega⟩⟩

theorem GivesE.postNo {E : Nat → Option Int} {w w1 w2 : World} {b : Nat} (hB : Below w.heap.size w w1) (hb1 : w.heap.size ≤ b) (h2 : Below w1.heap.size w1 w2) (hno : ¬ ECan E) :
    GivesE E w (.returned (.tuple #[curV none 0 0 0 0, .int .i64 3])) (((w2.setCell ⟨b, 0, none⟩ (.slice none 0 0)).setCell ⟨b, 1, none⟩ (.int .i64 0)).setCell ⟨b, 2, none⟩ (.int .i64 0)) :=
  ⟨below_set3 (hB.trans (h2.mono hB.size)) hb1 _ _ _, .inr ⟨rfl, hno⟩⟩

/-- The least common multiple of the periods of the normal forms. -/
def LcmN (z1 : List Int) (p1 : Nat) (i1 : Int) (z2 : List Int) (p2 : Nat) (i2 : Int) (L : Nat) : Prop :=
  ∃ y1 q1 j1 y2 q2 j2, NormC z1 p1 i1 y1 q1 j1 ∧ NormC z2 p2 i2 y2 q2 j2 ∧ q1 / Nat.gcd q1 q2 * q2 = L

theorem ch_sum : ChG 128 plI := fun x y w hx hy => pplus_any x y hx hy w

/-! ## The examples -/

theorem per_one {z : List Int} {i : Int} (g : Good z 1 i) {y : List Int} {q : Nat} {j : Int} (h : NormC z 1 i y q j) : q = 1 := by
  have h1 := (h.good g).p1
  rcases h with ⟨_, s, hn, _, _, hp⟩ | ⟨_, _, _, _, _, hp, _⟩ <;> omega

theorem lcm_one {z1 z2 : List Int} {i1 i2 : Int} (g1 : Good z1 1 i1) (g2 : Good z2 1 i2) : LcmN z1 1 i1 z2 1 i2 1 := by
  obtain ⟨y1, q1, j1, h1⟩ := g1.norm_ex
  obtain ⟨y2, q2, j2, h2⟩ := g2.norm_ex
  obtain rfl := per_one g1 h1
  obtain rfl := per_one g2 h2
  exact ⟨_, _, _, _, _, _, h1, h2, by decide⟩

theorem e0_good : Good [0] 1 3 := (okC_iff [0] 1 3).1 (by decide)
theorem e1_good : Good [0, 10, 12] 1 2 := (okC_iff [0, 10, 12] 1 2).1 (by decide)
theorem e0_fin : ¬ InfC [0] := by rw [infC_iff]; decide
theorem e1_fin : ¬ InfC [0, 10, 12] := by rw [infC_iff]; decide
theorem e0_at (t : Nat) : atC [0] 1 3 t = 3 * (t : Int) := by
  have hp := e0_good.per (show ¬ ([0] : List Int).getD (([0] : List Int).length - 1) 0 = infV by decide)
  induction t with
  | zero => decide
  | succ t ih => have := hp t (Nat.zero_le _); omega
theorem e1_at (t : Nat) (ht : 2 ≤ t) : atC [0, 10, 12] 1 2 t = 8 + 2 * (t : Int) := by
  have hp := e1_good.per (show ¬ ([0, 10, 12] : List Int).getD (([0, 10, 12] : List Int).length - 1) 0 = infV by decide)
  induction t with
  | zero => omega
  | succ t ih =>
    by_cases h : t = 1
    · subst h; decide
    · have h1 := hp t (by show 2 ≤ t; omega)
      have h2 := ih (by omega)
      omega
theorem e1_at0 : atC [0, 10, 12] 1 2 0 = 0 := by decide
theorem e1_at1 : atC [0, 10, 12] 1 2 1 = 10 := by decide

theorem ex_min (t : Nat) : eMin [0] 1 3 [0, 10, 12] 1 2 t = some (if t ≤ 8 then 3 * (t : Int) else 8 + 2 * (t : Int)) := by
  unfold eMin
  rw [eC_fin e0_fin, eC_fin e1_fin, e0_at]
  show some (min (3 * (t : Int)) (atC [0, 10, 12] 1 2 t)) = _
  by_cases h0 : t = 0
  · subst h0; rw [e1_at0]; rfl
  by_cases h1 : t = 1
  · subst h1; rw [e1_at1]; rfl
  rw [e1_at t (by omega)]
  by_cases h8 : t ≤ 8
  · rw [if_pos h8]; congr 1; omega
  · rw [if_neg h8]; congr 1; omega

theorem ex_min8 : eMin [0] 1 3 [0, 10, 12] 1 2 8 = some 24 := ex_min 8
theorem ex_min20 : eMin [0] 1 3 [0, 10, 12] 1 2 20 = some 48 := ex_min 20
theorem ex_min_can : ECan (eMin [0] 1 3 [0, 10, 12] 1 2) := by
  refine can_fin (s := 8) (p := 1) (c := 2) ex_min (fun t ht => ?_) (by omega) (by omega) (by omega) (by decide) (fun t ht => ?_) (by decide) (by omega)
  · show (if t + 1 ≤ 8 then 3 * ((t + 1 : Nat) : Int) else 8 + 2 * ((t + 1 : Nat) : Int)) = (if t ≤ 8 then 3 * (t : Int) else 8 + 2 * (t : Int)) + 2
    rw [if_neg (by omega)]
    by_cases h : t ≤ 8
    · rw [if_pos h]; omega
    · rw [if_neg h]; omega
  · show (if t ≤ 8 then 3 * (t : Int) else 8 + 2 * (t : Int)) ≤ (if t + 1 ≤ 8 then 3 * ((t + 1 : Nat) : Int) else 8 + 2 * ((t + 1 : Nat) : Int))
    split <;> split <;> omega

theorem low_good : Good [0, 0, 2] 1 3 := (okC_iff [0, 0, 2] 1 3).1 (by decide)
theorem low_fin : ¬ InfC [0, 0, 2] := by rw [infC_iff]; decide
theorem low_at (t : Nat) (ht : 2 ≤ t) : atC [0, 0, 2] 1 3 t = 3 * (t : Int) - 4 := by
  have h := (low_good.per low_fin).mul (t - 2)
  have e := h 2 (by decide)
  rw [show 2 + (t - 2) * 1 = t by omega] at e
  rw [e, atC_lt (by decide)]
  show (2 : Int) + ((t - 2 : Nat) : Int) * 3 = _
  omega

theorem ex_low : EForm [0, 0, 2] 1 3 (eLower 4 [0] 1 3) := by
  refine ⟨low_good, fun t => ?_, 2, by decide, low_good.per low_fin, by decide, fun q h1 h2 => by omega, .inr ?_⟩
  · unfold eLower
    rw [eC_fin low_fin, eC_fin e0_fin, e0_at]
    show some (atC [0, 0, 2] 1 3 t) = some (max (3 * (t : Int) - 4) 0)
    by_cases h0 : t = 0
    · subst h0; rfl
    by_cases h1 : t = 1
    · subst h1; rfl
    rw [low_at t (by omega)]; congr 1; omega
  · show ¬ atC [0, 0, 2] 1 3 2 = atC [0, 0, 2] 1 3 1 + 3
    decide

/-! ## Boxes -/

/-- A curve in a box, and its list. -/
structure Bx (u : World) (F : Nat) (a : Option Addr) (n cap p : Nat) (inc : Int) (zs : List Int) : Prop where
  box : Cur3 u F (.slice a n cap) (.int .i64 p) (.int .i64 inc)
  row : RowZ u a n cap zs
theorem Bx.under {u v : World} {F : Nat} {a : Option Addr} {n cap p : Nat} {inc : Int} {zs : List Int} (h : Bx u F a n cap p inc zs) (hb : Below u.heap.size u v) : Bx v F a n cap p inc zs := ⟨h.box.below hb, h.row.under hb⟩
theorem Bx.new {w : World} {a : Option Addr} {n cap p : Nat} {inc : Int} {zs : List Int} (h : RowZ w a n cap zs) : Bx (w.alloc (.cells #[.slice a n cap, .int .i64 p, .int .i64 inc] 24)) w.heap.size a n cap p inc zs := ⟨Cur3.new _ _ _ _ _, h.alloc _⟩
theorem below_box {w : World} (o : Obj) : Below w.heap.size w (w.alloc o) := (Below.refl _ _).alloc (Nat.le_refl _) _

theorem lits5 (w : World) : Bx ((((w.alloc (.cells #[.int .i64 0] 3)).alloc (.cells #[.int .i64 0, .int .i64 10, .int .i64 12] 3)).alloc (.cells #[.slice (some ⟨w.heap.size, 0, none⟩) 1 1, .int .i64 1, .int .i64 3] 24)).alloc (.cells #[.slice (some ⟨w.heap.size + 1, 0, none⟩) 3 3, .int .i64 1, .int .i64 2] 24)) (w.heap.size + 1 + 1) (some ⟨w.heap.size, 0, none⟩) 1 1 1 3 [0] ∧
    Bx ((((w.alloc (.cells #[.int .i64 0] 3)).alloc (.cells #[.int .i64 0, .int .i64 10, .int .i64 12] 3)).alloc (.cells #[.slice (some ⟨w.heap.size, 0, none⟩) 1 1, .int .i64 1, .int .i64 3] 24)).alloc (.cells #[.slice (some ⟨w.heap.size + 1, 0, none⟩) 3 3, .int .i64 1, .int .i64 2] 24)) (w.heap.size + 1 + 1 + 1) (some ⟨w.heap.size + 1, 0, none⟩) 3 3 1 2 [0, 10, 12] ∧
    Below w.heap.size w ((((w.alloc (.cells #[.int .i64 0] 3)).alloc (.cells #[.int .i64 0, .int .i64 10, .int .i64 12] 3)).alloc (.cells #[.slice (some ⟨w.heap.size, 0, none⟩) 1 1, .int .i64 1, .int .i64 3] 24)).alloc (.cells #[.slice (some ⟨w.heap.size + 1, 0, none⟩) 3 3, .int .i64 1, .int .i64 2] 24)) := by
  have r1 := rowZ_lit w [0] 3 (by decide) (by decide)
  have r2 := rowZ_lit (w.alloc (.cells #[.int .i64 0] 3)) [0, 10, 12] 3 (by decide) (by decide)
  have e1 : (w.alloc (.cells #[.int .i64 0] 3)).heap.size = w.heap.size + 1 := by simp
  rw [e1] at r2
  have b1 := Cur3.new ((w.alloc (.cells #[.int .i64 0] 3)).alloc (.cells #[.int .i64 0, .int .i64 10, .int .i64 12] 3)) (.slice (some ⟨w.heap.size, 0, none⟩) 1 1) (.int .i64 1) (.int .i64 3) 24
  rw [show ((w.alloc (.cells #[.int .i64 0] 3)).alloc (.cells #[.int .i64 0, .int .i64 10, .int .i64 12] 3)).heap.size = w.heap.size + 1 + 1 by simp] at b1
  have b2 := Cur3.new (((w.alloc (.cells #[.int .i64 0] 3)).alloc (.cells #[.int .i64 0, .int .i64 10, .int .i64 12] 3)).alloc (.cells #[.slice (some ⟨w.heap.size, 0, none⟩) 1 1, .int .i64 1, .int .i64 3] 24)) (.slice (some ⟨w.heap.size + 1, 0, none⟩) 3 3) (.int .i64 1) (.int .i64 2) 24
  rw [show (((w.alloc (.cells #[.int .i64 0] 3)).alloc (.cells #[.int .i64 0, .int .i64 10, .int .i64 12] 3)).alloc (.cells #[.slice (some ⟨w.heap.size, 0, none⟩) 1 1, .int .i64 1, .int .i64 3] 24)).heap.size = w.heap.size + 1 + 1 + 1 by simp] at b2
  exact ⟨⟨b1.alloc _, ((r1.alloc _).alloc _).alloc _⟩, ⟨b2, (r2.alloc _).alloc _⟩, ((((Below.refl _ _).alloc (Nat.le_refl _) _).alloc (by simp) _).alloc (by simp; omega) _).alloc (by simp; omega) _⟩

theorem same_at {a a2 : Option Addr} {n cap n2 cap2 p q : Nat} {inc jnc : Int} {zs ys : List Int} {E : Nat → Option Int} (h : EForm zs p inc E) (k : EForm ys q jnc E) (w : World) (h1 : RowZ w a n cap zs) (h2 : RowZ w a2 n2 cap2 ys) :
    Calls Try.prog 26 #[curV a n cap p inc, curV a2 n2 cap2 q jnc] w (Says (.bool true) w) := by
  refine rsame_any a n cap zs p inc a2 n2 cap2 ys q jnc true ?_ w h1 h2
  obtain ⟨rfl, rfl, rfl⟩ := h.unique k
  exact sameB_iff.2 ⟨rfl, rfl, rfl⟩

theorem EForm.good {zs : List Int} {p : Nat} {inc : Int} {E : Nat → Option Int} (h : EForm zs p inc E) : Good zs p inc := h.1
theorem EForm.val {zs : List Int} {p : Nat} {inc : Int} {E : Nat → Option Int} (h : EForm zs p inc E) : ∀ t, eC zs p inc t = E t := h.2.1

theorem EForm.at {zs : List Int} {p : Nat} {inc : Int} {E : Nat → Option Int} (h : EForm zs p inc E) {t : Nat} {x : Int} (hx : E t = some x) : atC zs p inc t = x := by
  rw [← enc_eC, h.2.1, hx]; rfl

end Go.Proofs.Ytladmpoopfabdaa
