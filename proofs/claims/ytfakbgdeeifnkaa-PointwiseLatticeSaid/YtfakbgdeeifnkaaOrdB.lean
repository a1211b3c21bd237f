/- Contracts of package order: subtract, firstPositive, settledBeforeStart. By the verifier's side. | Contracts of package order: firstPositive, settledBeforeStart. By the verifier's side. | Contracts of package order: Exceeds, AtMost, Settles, Meets. By the verifier's side. | The examples of chapter 4 (awake), and value. By the verifier's side. -/
import Derived.Test.YtfakbgdeeifnkaaOrdA
import Derived.Test.YtfakbgdeeifnkaaCurveEqualW
import Derived.RegionTactic
import Derived.StillTailTactics
import Derived.Test.YtfakbgdeeifnkaaCurW
namespace Go.Proofs.Ytfakbgdeeifnkaa
open Go.RowKit
set_option linter.unusedSimpArgs false

/-- What subtract hands back: the difference, and an error code. -/
def GivesDif (v : Value) (e : Int) (w : World) (en : Ending) (w' : World) : Prop := en = .returned (.tuple #[v, .int .i64 e]) ∧ Below w.heap.size w w'

theorem below_set9 {B : Nat} {u w : World} {b : Nat} (h : Below B u w) (hb : B ≤ b) (v0 v1 v2 v3 v4 v5 v6 v7 v8 : Value) :
    Below B u (((((((((w.setCell ⟨b, 0, none⟩ v0).setCell ⟨b, 1, none⟩ v1).setCell ⟨b, 2, none⟩ v2).setCell ⟨b, 3, none⟩ v3).setCell ⟨b, 4, none⟩ v4).setCell ⟨b, 5, none⟩ v5).setCell ⟨b, 6, none⟩ v6).setCell ⟨b, 7, none⟩ v7).setCell ⟨b, 8, none⟩ v8) :=
  ((((((((h.setCell (p := ⟨b, 0, none⟩) hb _).setCell (p := ⟨b, 1, none⟩) hb _).setCell (p := ⟨b, 2, none⟩) hb _).setCell (p := ⟨b, 3, none⟩) hb _).setCell (p := ⟨b, 4, none⟩) hb _).setCell (p := ⟨b, 5, none⟩) hb _).setCell (p := ⟨b, 6, none⟩) hb _).setCell (p := ⟨b, 7, none⟩) hb _).setCell (p := ⟨b, 8, none⟩) hb _

theorem two_store {w : World} {F : Nat} {a : Option Addr} {n cap p : Nat} {inc : Int} {zs : List Int} {G : Nat} {b : Option Addr} {m cup q : Nat} {jnc : Int} {ys : List Int} (h : Two w F a n cap p inc zs G b m cup q jnc ys) {E : Nat} (hF : ¬ F = E) (hG : ¬ G = E)
    (h1 : ∀ x, a = some x → ¬ x.block = E) (h2 : ∀ x, b = some x → ¬ x.block = E) (i : Nat) (v : Value) : Two (w.setCell ⟨E, i, none⟩ v) F a n cap p inc zs G b m cup q jnc ys :=
  ⟨h.bx.other hF i v, h.rx.store (fun x hx _ => h1 x hx) i v, h.by'.other hG i v, h.ry.store (fun x hx _ => h2 x hx) i v⟩

theorem finB_of {zs : List Int} {p : Nat} {inc : Int} (g : Good zs p inc) : finB zs p inc = true ↔ ¬ InfC zs := by
  unfold finB InfC; rw [(okC_iff zs p inc).2 g]; simp

theorem growC_bool {zs ys : List Int} {p q : Nat} {inc jnc : Int} (g : Good zs p inc) (k : Good ys q jnc) {L : Nat} :
    (finB zs p inc = finB ys q jnc → growC zs p inc ys q jnc L = ((L / p : Nat) : Int) * inc - ((L / q : Nat) : Int) * jnc) ∧ (¬ finB zs p inc = finB ys q jnc → growC zs p inc ys q jnc L = 0) := by
  have h1 := finB_of g
  have h2 := finB_of k
  constructor
  · intro h
    unfold growC
    rw [if_pos]
    rw [← h, h1] at h2
    exact ⟨fun a => Classical.byContradiction fun b => h2.2 b a, fun a => Classical.byContradiction fun b => h2.1 b a⟩
  · intro h
    refine growC_inf g k (Classical.byContradiction fun hn => h ?_)
    rw [h1.2 (fun x => hn (.inl x)), h2.2 (fun x => hn (.inr x))]

end Go.Proofs.Ytfakbgdeeifnkaa

namespace Go.Proofs.Ytfakbgdeeifnkaa
open Go.RowKit
set_option linter.unusedSimpArgs false

/-- What is known of a difference that stands in block b of a world: both lists, and the numbers. -/
structure DifOk (w : World) (a : Option Addr) (n cap : Nat) (zs : List Int) (p : Nat) (inc : Int) (a2 : Option Addr) (n2 cap2 : Nat) (ys : List Int) (q : Nat) (jnc : Int) (S L : Nat) : Prop where
  g : Good zs p inc
  k : Good ys q jnc
  r : RowZ w a n cap zs
  r2 : RowZ w a2 n2 cap2 ys
  s : max (n - p) (n2 - q) = S
  l : p / Nat.gcd p q * q = L
section
variable {w w' : World} {a : Option Addr} {n cap : Nat} {zs : List Int} {p : Nat} {inc : Int} {a2 : Option Addr} {n2 cap2 : Nat} {ys : List Int} {q : Nat} {jnc : Int} {S L : Nat}
theorem DifOk.under (h : DifOk w a n cap zs p inc a2 n2 cap2 ys q jnc S L) (hb : Below w.heap.size w w') : DifOk w' a n cap zs p inc a2 n2 cap2 ys q jnc S L := ⟨h.g, h.k, h.r.under hb, h.r2.under hb, h.s, h.l⟩
theorem DifOk.lcm (h : DifOk w a n cap zs p inc a2 n2 cap2 ys q jnc S L) : Lcm p q L := lcm_of h.g.p1 h.k.p1 h.l
theorem DifOk.small (h : DifOk w a n cap zs p inc a2 n2 cap2 ys q jnc S L) : S ≤ 400 ∧ 1 ≤ L ∧ L ≤ 14400 := by
  have h1 := h.s; have h2 := h.r.len; have h3 := h.r2.len; have h4 := h.g.few; have h5 := h.k.few
  exact ⟨by omega, h.lcm.one, Nat.le_trans h.lcm.le (Nat.mul_le_mul h.g.p2 h.k.p2)⟩
theorem DifOk.per (h : DifOk w a n cap zs p inc a2 n2 cap2 ys q jnc S L) : Per (dC zs p inc ys q jnc) S L (growC zs p inc ys q jnc L) := by
  have h1 := h.s; have h2 := h.r.len; have h3 := h.r2.len
  exact dC_per h.g h.k h.lcm (by omega) (by omega)
theorem DifOk.sign (h : DifOk w a n cap zs p inc a2 n2 cap2 ys q jnc S L) {t : Nat} (ht : t ≤ 1048576) :
    (0 < dC zs p inc ys q jnc t ↔ 0 < atC zs p inc t - atC ys q jnc t) ∧ (dC zs p inc ys q jnc t = 0 ↔ atC zs p inc t - atC ys q jnc t = 0) := by
  obtain ⟨h1, h2⟩ := dC_sign h.g h.k ht
  exact ⟨by rw [h1]; omega, by rw [h2]; omega⟩
theorem DifOk.exact (h : DifOk w a n cap zs p inc a2 n2 cap2 ys q jnc S L) (hc : ¬ growC zs p inc ys q jnc L = 0) (t : Nat) : dC zs p inc ys q jnc t = atC zs p inc t - atC ys q jnc t :=
  dC_fin (growC_ne h.g h.k hc).1 (growC_ne h.g h.k hc).2 t
end

/-- The least of the ticks of all residue classes at which a growing difference is positive. -/
def LeastF (d : Nat → Int) (S L : Nat) (c : Int) (w : World) (e : Ending) (w' : World) : Prop :=
  ∃ x : Int, (∀ r, r < L → x ≤ farT d S L c r) ∧ (∃ r, r < L ∧ x = farT d S L c r) ∧ e = .returned (.int .i64 x) ∧ Below w.heap.size w w'

/-- What the loop over the residue classes has found. -/
def MinI (d : Nat → Int) (S L : Nat) (c : Int) (r : Nat) (x : Int) : Prop :=
  (r = 0 ∧ x = 9223372036854775807) ∨ ((∀ s, s < r → x ≤ farT d S L c s) ∧ ∃ s, s < r ∧ x = farT d S L c s)
theorem MinI.step {d : Nat → Int} {S L : Nat} {c : Int} {r : Nat} {x y z : Int} (h : MinI d S L c r x) (hy : farT d S L c r = y) (hy2 : y ≤ 9223372036854775807) (hz : z = min x y) : MinI d S L c (r + 1) z := by
  rcases h with ⟨rfl, rfl⟩ | ⟨h1, s, hs, rfl⟩
  · refine .inr ⟨fun s hs => ?_, 0, by omega, by omega⟩
    obtain rfl : s = 0 := by omega
    omega
  · refine .inr ⟨fun u hu => ?_, ?_⟩
    · by_cases he : u = r
      · subst he; omega
      · have := h1 u (by omega); omega
    · by_cases hle : farT d S L c s ≤ y
      · exact ⟨s, by omega, by omega⟩
      · exact ⟨r, by omega, by omega⟩

/-- The tick behind the last disturbing one before the start. -/
def LastB (f : Nat → Bool) (S : Nat) (w : World) (e : Ending) (w' : World) : Prop :=
  ∃ T : Nat, T ≤ S ∧ (∀ u, u < S → T ≤ u → f u = false) ∧ (T = 0 ∨ f (T - 1) = true) ∧ e = .returned (.int .i64 T) ∧ Below w.heap.size w w'

end Go.Proofs.Ytfakbgdeeifnkaa

namespace Go.Proofs.Ytfakbgdeeifnkaa
open Go.RowKit
set_option linter.unusedSimpArgs false

/-- A tick, whether there is one, and an error code. -/
def Tick3 (t : Int) (ok : Bool) (e : Int) (w : World) (en : Ending) (w' : World) : Prop := en = .returned (.tuple #[.int .i64 t, .bool ok, .int .i64 e]) ∧ Below w.heap.size w w'

section
variable (a : Option Addr) (n cap : Nat) (zs : List Int) (p inc : Int) (hp : In64 p) (hi : In64 inc) (a2 : Option Addr) (n2 cap2 : Nat) (ys : List Int) (q jnc : Int) (hq : In64 q) (hj : In64 jnc)
    (hv : okC zs p inc = false ∨ okC ys q jnc = false) (w : World) (h : RowZ w a n cap zs) (h2 : RowZ w a2 n2 cap2 ys)
theorem two_boxes (w : World) (o o2 : Obj) : Below w.heap.size w ((w.alloc o).alloc o2) := ((Below.refl _ _).alloc (Nat.le_refl _) _).alloc (by simp) _

include hp hi hq hj hv h h2
end

section
variable (a : Option Addr) (n cap : Nat) (zs : List Int) (p : Nat) (inc : Int) (g : Good zs p inc) (a2 : Option Addr) (n2 cap2 : Nat) (ys : List Int) (q : Nat) (jnc : Int) (k : Good ys q jnc) (t : Int) (ok : Bool)
    (w : World) (h : RowZ w a n cap zs) (h2 : RowZ w a2 n2 cap2 ys)

include g k h h2
end
end Go.Proofs.Ytfakbgdeeifnkaa

namespace Go.Proofs.Ytfakbgdeeifnkaa
open Go.RowKit
set_option linter.unusedSimpArgs false

theorem g3_good : Good [0, 10, 12] 1 2 := (okC_iff [0, 10, 12] 1 2).1 (by decide)
theorem f3_fin : ¬ InfC [0] := by rw [infC_iff]; decide
theorem g3_fin : ¬ InfC [0, 10, 12] := by rw [infC_iff]; decide
theorem f3_at (t : Nat) : atC [0] 1 3 t = 3 * (t : Int) := by
  have hp := zero_good.per (show ¬ ([0] : List Int).getD (([0] : List Int).length - 1) 0 = infV by decide)
  induction t with
  | zero => decide
  | succ t ih => have := hp t (Nat.zero_le _); omega
theorem g3_at (t : Nat) (ht : 2 ≤ t) : atC [0, 10, 12] 1 2 t = 8 + 2 * (t : Int) := by
  have hp := g3_good.per (show ¬ ([0, 10, 12] : List Int).getD (([0, 10, 12] : List Int).length - 1) 0 = infV by decide)
  induction t with
  | zero => omega
  | succ t ih =>
    by_cases h : t = 1
    · subst h; decide
    · have h1 := hp t (by show 2 ≤ t; omega)
      have h2 := ih (by omega)
      omega
theorem g3_at0 : atC [0, 10, 12] 1 2 0 = 0 := by decide
theorem g3_at1 : atC [0, 10, 12] 1 2 1 = 10 := by decide

theorem ex_exc : ExcP (dC [0] 1 3 [0, 10, 12] 1 2) 9 true := by
  refine .inl ⟨rfl, 9, rfl, ?_, fun u hu => ?_⟩
  · rw [dC_fin f3_fin g3_fin, f3_at, g3_at _ (by omega)]; decide
  · rw [dC_fin f3_fin g3_fin, f3_at]
    by_cases h : 2 ≤ u
    · rw [g3_at _ h]; omega
    · have : u = 0 ∨ u = 1 := by omega
      rcases this with rfl | rfl
      · rw [g3_at0]; decide
      · rw [g3_at1]; decide
theorem ex_set : SetP (dC [0, 10, 12] 1 2 [0] 1 3) 8 true := by
  refine .inl ⟨rfl, 8, rfl, fun u hu => ?_, .inr ?_⟩
  · rw [dC_fin g3_fin f3_fin, f3_at, g3_at _ (by omega)]; omega
  · rw [dC_fin g3_fin f3_fin, f3_at, g3_at _ (by omega)]; decide
theorem ex_meet : MeetP (dC [0] 1 3 [0, 10, 12] 1 2) 0 false := by
  refine .inr ⟨rfl, rfl, fun T => ⟨T + 9, by omega, ?_⟩⟩
  rw [dC_fin f3_fin g3_fin, f3_at, g3_at _ (by omega)]; omega
theorem ex_self : ExcP (dC [0] 1 3 [0] 1 3) 0 false := by
  refine .inr ⟨rfl, rfl, fun u => ?_⟩
  rw [dC_fin f3_fin f3_fin]; omega

theorem two_lits (w : World) : Two ((((w.alloc (.cells #[.int .i64 0] 3)).alloc (.cells #[.int .i64 0, .int .i64 10, .int .i64 12] 3)).alloc (.cells #[.slice (some ⟨w.heap.size, 0, none⟩) 1 1, .int .i64 1, .int .i64 3] 24)).alloc (.cells #[.slice (some ⟨w.heap.size + 1, 0, none⟩) 3 3, .int .i64 1, .int .i64 2] 24)) (w.heap.size + 1 + 1) (some ⟨w.heap.size, 0, none⟩) 1 1 1 3 [0] (w.heap.size + 1 + 1 + 1) (some ⟨w.heap.size + 1, 0, none⟩) 3 3 1 2 [0, 10, 12] ∧ Below w.heap.size w ((((w.alloc (.cells #[.int .i64 0] 3)).alloc (.cells #[.int .i64 0, .int .i64 10, .int .i64 12] 3)).alloc (.cells #[.slice (some ⟨w.heap.size, 0, none⟩) 1 1, .int .i64 1, .int .i64 3] 24)).alloc (.cells #[.slice (some ⟨w.heap.size + 1, 0, none⟩) 3 3, .int .i64 1, .int .i64 2] 24)) := by
  have r1 := rowZ_lit w [0] 3 (by decide) (by decide)
  have r2 := rowZ_lit (w.alloc (.cells #[.int .i64 0] 3)) [0, 10, 12] 3 (by decide) (by decide)
  have e1 : (w.alloc (.cells #[.int .i64 0] 3)).heap.size = w.heap.size + 1 := by simp
  rw [e1] at r2
  have b1 := Cur3.new ((w.alloc (.cells #[.int .i64 0] 3)).alloc (.cells #[.int .i64 0, .int .i64 10, .int .i64 12] 3)) (.slice (some ⟨w.heap.size, 0, none⟩) 1 1) (.int .i64 1) (.int .i64 3) 24
  rw [show ((w.alloc (.cells #[.int .i64 0] 3)).alloc (.cells #[.int .i64 0, .int .i64 10, .int .i64 12] 3)).heap.size = w.heap.size + 1 + 1 by simp] at b1
  have b2 := Cur3.new (((w.alloc (.cells #[.int .i64 0] 3)).alloc (.cells #[.int .i64 0, .int .i64 10, .int .i64 12] 3)).alloc (.cells #[.slice (some ⟨w.heap.size, 0, none⟩) 1 1, .int .i64 1, .int .i64 3] 24)) (.slice (some ⟨w.heap.size + 1, 0, none⟩) 3 3) (.int .i64 1) (.int .i64 2) 24
  rw [show (((w.alloc (.cells #[.int .i64 0] 3)).alloc (.cells #[.int .i64 0, .int .i64 10, .int .i64 12] 3)).alloc (.cells #[.slice (some ⟨w.heap.size, 0, none⟩) 1 1, .int .i64 1, .int .i64 3] 24)).heap.size = w.heap.size + 1 + 1 + 1 by simp] at b2
  exact ⟨⟨b1.alloc _, ((r1.alloc _).alloc _).alloc _, b2, (r2.alloc _).alloc _⟩, ((((Below.refl _ _).alloc (Nat.le_refl _) _).alloc (by simp) _).alloc (by simp; omega) _).alloc (by simp; omega) _⟩

end Go.Proofs.Ytfakbgdeeifnkaa
