/- For the walks of the laws about deviations: curves that repeat by a day, later, scaled; what is read of the drawn curves. By the verifier's side. -/
import Derived.Test.YtjjaaknjdmijbaaQbDevG
import Derived.Test.YtjjaaknjdmijbaaQbZeroZero3
import Derived.Test.YtjjaaknjdmijbaaQbKeepC
import Derived.Test.YtjjaaknjdmijbaaQbOrdAS
import Derived.Deep.CutBlock
namespace Go.Proofs.Ytjjaaknjdmijbaa
open Go.RowKit
set_option linter.unusedSimpArgs false
set_option linter.unusedVariables false

theorem Day.laterO {E : Nat → Option Int} (h : Day E) (d : Nat) : Day (laterO d E) := by
  obtain ⟨s, c, hp, h | h⟩ := h
  · exact day_none (s := s + d) fun t ht => by unfold Go.Proofs.Ytjjaaknjdmijbaa.laterO; rw [if_neg (by omega)]; exact h _ (by omega)
  · refine day_some (F := fun t => encF E (t - d)) (s := s + d) (c := c) (fun t ht => by unfold Go.Proofs.Ytjjaaknjdmijbaa.laterO; rw [if_neg (by omega)]; exact h _ (by omega)) fun t ht => ?_
    have := hp (t - d) (by omega)
    show encF E (t + 24 - d) = encF E (t - d) + c
    rw [← this]; congr 1; omega
theorem day_drawn {most : Nat} {zs : List Int} {p : Nat} {inc : Int} (ok : OkCur most zs p inc) : Day (eC zs p inc) := by
  by_cases hi : InfC zs
  · exact day_none (s := zs.length - 1) fun t ht => eC_late ok.good hi ht
  · obtain ⟨c, hc⟩ := ok.twelve hi
    exact day_some (s := most - 1) (c := 2 * c) (fun t _ => eC_fin hi _ _ t) (by have := hc.mul 2; exact this)
theorem nn_eC {zs : List Int} {p : Nat} {inc : Int} (g : Good zs p inc) : Nn (eC zs p inc) := fun t y hy => (eC_bd g hy).1
/-- A curve is handed back, or the error that there is none. -/
def GivesZ3 (E : Nat → Option Int) (w : World) (e : Ending) (w' : World) : Prop :=
  ∃ (a : Option Addr) (n cap : Nat) (zs : List Int) (p inc c : Int), e = .returned (.tuple #[curV a n cap p inc, .int .i64 c]) ∧ Below w.heap.size w w' ∧ RowZ w' a n cap zs ∧ ((c = 0 ∧ ∃ q : Nat, p = q ∧ EForm zs q inc E) ∨ c = 3)
theorem GivesE.z3 {E : Nat → Option Int} {w w' : World} {e : Ending} (h : GivesE E w e w') : GivesZ3 E w e w' := by
  obtain ⟨hb, ⟨a, n, cap, zs, p, inc, he, hr, hf, hx⟩ | ⟨he, _⟩⟩ := h
  · exact ⟨a, n, cap, zs, p, inc, 0, he, hb, hr, .inl ⟨rfl, p, rfl, hf⟩⟩
  · exact ⟨none, 0, 0, [], 0, 0, 3, he, hb, ⟨rfl, Nat.le_refl _, Nat.zero_le _, by omega, fun i hi => absurd hi (Nat.not_lt_zero _), fun i hi => absurd hi (Nat.not_lt_zero _)⟩, .inr rfl⟩
/-- A box with a curve stands still where another box is written. -/
theorem Bx.away {u : World} {F : Nat} {a : Option Addr} {n cap p : Nat} {inc : Int} {zs : List Int} (h : Bx u F a n cap p inc zs) {b : Nat} (hF : ¬ F = b) (hx : ∀ x, a = some x → 1 ≤ n → x.block < b) (i : Nat) (v : Value) : Bx (u.setCell ⟨b, i, none⟩ v) F a n cap p inc zs :=
  ⟨h.box.other hF _ _, h.row.store (fun x k1 k2 => Nat.ne_of_lt (hx x k1 k2)) _ _⟩
set_option maxHeartbeats 1600000 in
theorem less_dev (i j : Bool) (m n k l : Int) (w : World) : Calls Try.prog 71 #[.agg #[.bool i, .int .i64 m, .int .i64 k], .agg #[.bool j, .int .i64 n, .int .i64 l]] w (Says (.bool (j || (!i && decide (m ≤ n)))) w) := by
  have hB : Below w.heap.size w ((w.alloc (.cells #[.bool i, .int .i64 m, .int .i64 k] 74)).alloc (.cells #[.bool j, .int .i64 n, .int .i64 l] 74)) := ((Below.refl _ _).alloc (Nat.le_refl _) _).alloc (by simp) _
  have HB := Lib.hid hB
  clear hB
  cases i <;> cases j <;> by_cases h : m ≤ n
  all_goals
    first | have t1 : decide (m ≤ n) = true := decide_eq_true h | have t1 : decide (m ≤ n) = false := decide_eq_false h
    go_enter Try.func71, Try.ntmps71
    go_wp2_with fail
    go_ret
    exact ⟨by simp [t1], HB.out⟩
theorem less_ok {P Q : Bool → Int → Nat → Prop} {i j : Bool} {m n : Int} {k l : Nat} (h : DLe i m j n) (w : World) : Calls Try.prog 71 #[.agg #[.bool i, .int .i64 m, .int .i64 k], .agg #[.bool j, .int .i64 n, .int .i64 l]] w (Says (.bool true) w) := by
  have e : (j || (!i && decide (m ≤ n))) = true := by
    rcases h with rfl | ⟨rfl, h⟩
    · rfl
    · simp [h]
  exact e ▸ less_dev i j m n k l w
end Go.Proofs.Ytjjaaknjdmijbaa

namespace Go.Proofs.Ytjjaaknjdmijbaa
open Go.RowKit
set_option linter.unusedSimpArgs false
set_option linter.unusedVariables false

theorem SrcAt.store {w : World} {b n cap : Nat} {a : Option Addr} (h : SrcAt w b a n cap) {B : Nat} (hB : ¬ b = B) (hx : ∀ x, a = some x → 1 ≤ n → ¬ x.block = B) (i : Nat) (v : Value) : SrcAt (w.setCell ⟨B, i, none⟩ v) b a n cap := by
  obtain ⟨⟨k, hk, hs⟩, hf, hr⟩ := h
  refine ⟨⟨k, hk, (Below.heap_setCell _ _ _ _ hB).trans hs⟩, hf, fun j hj => ?_⟩
  obtain ⟨x, z, h1, h2, h3, h4⟩ := hr j hj
  exact ⟨x, z, h1, h2, (World.cell?_of_block (w := w) (a := x.add j) (Below.heap_setCell _ _ _ _ (by unfold Addr.add; split <;> exact hx x h1 (by omega)))).trans h3, h4⟩
theorem src_far {w : World} {b n cap : Nat} {a : Option Addr} (h : SrcAt w b a n cap) : ∀ x, a = some x → 1 ≤ n → x.block < w.heap.size := fun x hx hn => by
  obtain ⟨y, z, h1, h2, h3, h4⟩ := h.row 0 (by omega)
  rw [hx] at h1; cases h1
  have := lt_of_cell h3
  unfold Addr.add at this; split at this <;> exact this

/-- Two curves in boxes, and the reader in the block b. -/
structure MQ (W : World) (b F G : Nat) (af : Option Addr) (nf capf : Nat) (zf : List Int) (pf : Nat) (jf : Int) (ag : Option Addr) (ng capg : Nat) (zg : List Int) (pg : Nat) (jg : Int) (ra : Option Addr) (rn rc : Nat) (u : World) : Prop where
  f : Bx u F af nf capf pf jf zf
  g : Bx u G ag ng capg pg jg zg
  src : SrcAt u b ra rn rc
  below : Below W.heap.size W u
  bF : b < F
  bG : b < G
  hb : W.heap.size ≤ b
  xf : ∀ x, af = some x → ¬ x.block = b
  xg : ∀ x, ag = some x → ¬ x.block = b
  xs : ∀ x, ra = some x → 1 ≤ rn → x.block < F
/-- And a third one. -/
structure MR (W : World) (b F G : Nat) (af : Option Addr) (nf capf : Nat) (zf : List Int) (pf : Nat) (jf : Int) (ag : Option Addr) (ng capg : Nat) (zg : List Int) (pg : Nat) (jg : Int) (ra : Option Addr) (rn rc : Nat) (M : Nat) (am : Option Addr) (nm capm : Nat) (zm : List Int) (pm : Nat) (jm : Int) (u : World) : Prop where
  q : MQ W b F G af nf capf zf pf jf ag ng capg zg pg jg ra rn rc u
  m : Bx u M am nm capm pm jm zm
  bM : b < M
  xm : ∀ x, am = some x → ¬ x.block = b
section
variable {W u v : World} {b F G : Nat} {af : Option Addr} {nf capf : Nat} {zf : List Int} {pf : Nat} {jf : Int} {ag : Option Addr} {ng capg : Nat} {zg : List Int} {pg : Nat} {jg : Int} {ra : Option Addr} {rn rc : Nat} {M : Nat} {am : Option Addr} {nm capm : Nat} {zm : List Int} {pm : Nat} {jm : Int}
theorem MQ.call (h : MQ W b F G af nf capf zf pf jf ag ng capg zg pg jg ra rn rc u) (hb : Below u.heap.size u v) : MQ W b F G af nf capf zf pf jf ag ng capg zg pg jg ra rn rc v := ⟨h.f.under hb, h.g.under hb, src_under h.src hb, h.below.trans (hb.mono h.below.size), h.bF, h.bG, h.hb, h.xf, h.xg, h.xs⟩
theorem MQ.read (h : MQ W b F G af nf capf zf pf jf ag ng capg zg pg jg ra rn rc u) (hs : SrcAt v b ra rn rc) (ha : Apart b u v) : MQ W b F G af nf capf zf pf jf ag ng capg zg pg jg ra rn rc v := by
  have h1 := h.bF; have h2 := h.bG
  exact ⟨h.f.apart ha (by omega) h.xf, h.g.apart ha (by omega) h.xg, hs, h.below.trans (ha.below h.hb h.below.size), h.bF, h.bG, h.hb, h.xf, h.xg, h.xs⟩
theorem MR.call (h : MR W b F G af nf capf zf pf jf ag ng capg zg pg jg ra rn rc M am nm capm zm pm jm u) (hb : Below u.heap.size u v) : MR W b F G af nf capf zf pf jf ag ng capg zg pg jg ra rn rc M am nm capm zm pm jm v := ⟨h.q.call hb, h.m.under hb, h.bM, h.xm⟩
theorem MR.read (h : MR W b F G af nf capf zf pf jf ag ng capg zg pg jg ra rn rc M am nm capm zm pm jm u) (hs : SrcAt v b ra rn rc) (ha : Apart b u v) : MR W b F G af nf capf zf pf jf ag ng capg zg pg jg ra rn rc M am nm capm zm pm jm v := by
  have h1 := h.bM
  exact ⟨h.q.read hs ha, h.m.apart ha (by omega) h.xm, h.bM, h.xm⟩
/-- A store into a box that is younger than all of them. -/
theorem MQ.other (h : MQ W b F G af nf capf zf pf jf ag ng capg zg pg jg ra rn rc u) {B : Nat} (hB : F < B) (hB2 : G < B) (hf : ∀ x, af = some x → 1 ≤ nf → x.block ≠ B) (hg : ∀ x, ag = some x → 1 ≤ ng → x.block ≠ B) (i : Nat) (x : Value) : MQ W b F G af nf capf zf pf jf ag ng capg zg pg jg ra rn rc (u.setCell ⟨B, i, none⟩ x) := by
  have h1 := h.bF; have h2 := h.hb
  exact ⟨⟨h.f.box.other (by omega) _ _, h.f.row.store hf _ _⟩, ⟨h.g.box.other (by omega) _ _, h.g.row.store hg _ _⟩, h.src.store (by omega) (fun y hy hn => by have := h.xs y hy hn; omega) i x, h.below.setCell (p := ⟨B, i, none⟩) (by show W.heap.size ≤ B; omega) _, h.bF, h.bG, h.hb, h.xf, h.xg, h.xs⟩
theorem MR.other (h : MR W b F G af nf capf zf pf jf ag ng capg zg pg jg ra rn rc M am nm capm zm pm jm u) {B : Nat} (hB : F < B) (hB2 : G < B) (hM : M < B) (hf : ∀ x, af = some x → 1 ≤ nf → x.block ≠ B) (hg : ∀ x, ag = some x → 1 ≤ ng → x.block ≠ B) (hm : ∀ x, am = some x → 1 ≤ nm → x.block ≠ B) (i : Nat) (x : Value) : MR W b F G af nf capf zf pf jf ag ng capg zg pg jg ra rn rc M am nm capm zm pm jm (u.setCell ⟨B, i, none⟩ x) :=
  ⟨h.q.other hB hB2 hf hg i x, ⟨h.m.box.other (by omega) _ _, h.m.row.store hm _ _⟩, h.bM, h.xm⟩
end
abbrev MQS (W : World) (b F G : Nat) (af : Option Addr) (nf capf : Nat) (zf : List Int) (pf : Nat) (jf : Int) (ag : Option Addr) (ng capg : Nat) (zg : List Int) (pg : Nat) (jg : Int) (ra : Option Addr) (rn rc : Nat) (u : World) : Prop :=
  u.cell? ⟨F, 0, none⟩ = some (.slice af nf capf) ∧ u.cell? ⟨F, 1, none⟩ = some (.int .i64 pf) ∧ u.cell? ⟨F, 2, none⟩ = some (.int .i64 jf) ∧ Hid (MQ W b F G af nf capf zf pf jf ag ng capg zg pg jg ra rn rc u)
theorem mqs_of {W u : World} {b F G : Nat} {af : Option Addr} {nf capf : Nat} {zf : List Int} {pf : Nat} {jf : Int} {ag : Option Addr} {ng capg : Nat} {zg : List Int} {pg : Nat} {jg : Int} {ra : Option Addr} {rn rc : Nat} (h : MQ W b F G af nf capf zf pf jf ag ng capg zg pg jg ra rn rc u) : MQS W b F G af nf capf zf pf jf ag ng capg zg pg jg ra rn rc u := ⟨h.f.box.c0, h.f.box.c1, h.f.box.c2, h⟩
abbrev MRS (W : World) (b F G : Nat) (af : Option Addr) (nf capf : Nat) (zf : List Int) (pf : Nat) (jf : Int) (ag : Option Addr) (ng capg : Nat) (zg : List Int) (pg : Nat) (jg : Int) (ra : Option Addr) (rn rc : Nat) (M : Nat) (am : Option Addr) (nm capm : Nat) (zm : List Int) (pm : Nat) (jm : Int) (u : World) : Prop :=
  u.cell? ⟨G, 0, none⟩ = some (.slice ag ng capg) ∧ u.cell? ⟨G, 1, none⟩ = some (.int .i64 pg) ∧ u.cell? ⟨G, 2, none⟩ = some (.int .i64 jg) ∧ Hid (MR W b F G af nf capf zf pf jf ag ng capg zg pg jg ra rn rc M am nm capm zm pm jm u)
theorem mrs_of {W u : World} {b F G : Nat} {af : Option Addr} {nf capf : Nat} {zf : List Int} {pf : Nat} {jf : Int} {ag : Option Addr} {ng capg : Nat} {zg : List Int} {pg : Nat} {jg : Int} {ra : Option Addr} {rn rc : Nat} {M : Nat} {am : Option Addr} {nm capm : Nat} {zm : List Int} {pm : Nat} {jm : Int} (h : MR W b F G af nf capf zf pf jf ag ng capg zg pg jg ra rn rc M am nm capm zm pm jm u) : MRS W b F G af nf capf zf pf jf ag ng capg zg pg jg ra rn rc M am nm capm zm pm jm u := ⟨h.q.g.box.c0, h.q.g.box.c1, h.q.g.box.c2, h⟩


theorem ole_of_dD {zs ys : List Int} {p q : Nat} {inc jnc : Int} (g : Good zs p inc) (k : Good ys q jnc) (h : ∀ t, dC zs p inc ys q jnc t ≤ 0) (t : Nat) : ole (eC zs p inc t) (eC ys q jnc t) := by
  intro y hy
  have k2 : ¬ (InfC ys ∧ atC ys q jnc t = infV) := fun hx => by rw [eC_none.2 hx] at hy; cases hy
  have e2 : atC ys q jnc t = y := (eC_bd k hy).2.2
  have hd := h t
  unfold dC at hd
  by_cases k1 : InfC zs ∧ atC zs p inc t = infV
  · rw [if_pos k1, if_neg k2] at hd; omega
  · rw [if_neg k1, if_neg k2, e2] at hd
    cases hx : eC zs p inc t with
    | none => exact absurd (eC_none.1 hx) k1
    | some x => exact ⟨x, rfl, by have := (eC_bd g hx).2.2; omega⟩
theorem ratMost_dec (a1 : Option Addr) (n1 cap1 : Nat) (z1 : List Int) (p1 : Nat) (i1 : Int) (g1 : Good z1 p1 i1) (a2 : Option Addr) (n2 cap2 : Nat) (z2 : List Int) (p2 : Nat) (i2 : Int) (g2 : Good z2 p2 i2) (b : Bool) (hb : b = true ↔ ∀ t, ole (eC z1 p1 i1 t) (eC z2 p2 i2 t)) (w : World) (h1 : RowZ w a1 n1 cap1 z1) (h2 : RowZ w a2 n2 cap2 z2) :
    Calls Try.prog 68 #[curV a1 n1 cap1 p1 i1, curV a2 n2 cap2 p2 i2] w (Says (.bool b) w) := by
  obtain ⟨t, ok, hE⟩ := excP_ex (dC z1 p1 i1 z2 p2 i2)
  have e : (!ok) = b := by
    cases b with
    | true => rw [(hE.unique (excP_of (hb.1 rfl))).2]; rfl
    | false =>
      cases ok with
      | true => rfl
      | false =>
        rcases hE with ⟨h, _⟩ | ⟨_, _, h⟩
        · cases h
        · exact absurd (hb.2 (ole_of_dD g1 g2 h)) (by decide)
  rw [← e]
  exact ratMost_ok a1 n1 cap1 z1 p1 i1 g1 a2 n2 cap2 z2 p2 i2 g2 t ok w h1 h2 hE

/-- A curve is handed back in memory of the call's own, or the error that there is none. -/
def GivesZ4 (E : Nat → Option Int) (w : World) (e : Ending) (w' : World) : Prop :=
  ∃ (a : Option Addr) (n cap : Nat) (zs : List Int) (p inc c : Int), e = .returned (.tuple #[curV a n cap p inc, .int .i64 c]) ∧ Below w.heap.size w w' ∧ RowZ w' a n cap zs ∧ ((c = 0 ∧ ∃ q : Nat, p = q ∧ EForm zs q inc E) ∨ c = 3) ∧ ∀ x, a = some x → w.heap.size ≤ x.block
theorem GivesE.z4 {E : Nat → Option Int} {w w' : World} {e : Ending} (h : GivesE E w e w') : GivesZ4 E w e w' := by
  obtain ⟨hb, ⟨a, n, cap, zs, p, inc, he, hr, hf, hx⟩ | ⟨he, _⟩⟩ := h
  · exact ⟨a, n, cap, zs, p, inc, 0, he, hb, hr, .inl ⟨rfl, p, rfl, hf⟩, hx⟩
  · exact ⟨none, 0, 0, [], 0, 0, 3, he, hb, ⟨rfl, Nat.le_refl _, Nat.zero_le _, by omega, fun i hi => absurd hi (Nat.not_lt_zero _), fun i hi => absurd hi (Nat.not_lt_zero _)⟩, .inr rfl, fun x hx => by cases hx⟩

/-- Two curves in boxes, the reader, and a deviation in the block D. -/
structure MS (W : World) (b F G D : Nat) (af : Option Addr) (nf capf : Nat) (zf : List Int) (pf : Nat) (jf : Int) (ag : Option Addr) (ng capg : Nat) (zg : List Int) (pg : Nat) (jg : Int) (i : Bool) (m : Int) (k : Nat) (ra : Option Addr) (rn rc : Nat) (u : World) : Prop where
  q : MQ W b F G af nf capf zf pf jf ag ng capg zg pg jg ra rn rc u
  d : Cur3 u D (.bool i) (.int .i64 m) (.int .i64 k)
  bD : b < D
section
variable {W u v : World} {b F G D : Nat} {af : Option Addr} {nf capf : Nat} {zf : List Int} {pf : Nat} {jf : Int} {ag : Option Addr} {ng capg : Nat} {zg : List Int} {pg : Nat} {jg : Int} {i : Bool} {m : Int} {k : Nat} {ra : Option Addr} {rn rc : Nat}
theorem MS.call (h : MS W b F G D af nf capf zf pf jf ag ng capg zg pg jg i m k ra rn rc u) (hb : Below u.heap.size u v) : MS W b F G D af nf capf zf pf jf ag ng capg zg pg jg i m k ra rn rc v := ⟨h.q.call hb, h.d.below hb, h.bD⟩
theorem MS.read (h : MS W b F G D af nf capf zf pf jf ag ng capg zg pg jg i m k ra rn rc u) (hs : SrcAt v b ra rn rc) (ha : Apart b u v) : MS W b F G D af nf capf zf pf jf ag ng capg zg pg jg i m k ra rn rc v := by
  have h1 := h.bD
  exact ⟨h.q.read hs ha, h.d.apart ha (by omega), h1⟩
theorem MS.other (h : MS W b F G D af nf capf zf pf jf ag ng capg zg pg jg i m k ra rn rc u) {B : Nat} (hB : F < B) (hB2 : G < B) (hD : D < B) (hf : ∀ x, af = some x → 1 ≤ nf → x.block ≠ B) (hg : ∀ x, ag = some x → 1 ≤ ng → x.block ≠ B) (j : Nat) (x : Value) : MS W b F G D af nf capf zf pf jf ag ng capg zg pg jg i m k ra rn rc (u.setCell ⟨B, j, none⟩ x) :=
  ⟨h.q.other hB hB2 hf hg j x, h.d.other (by omega) _ _, h.bD⟩
end
/-- The cells that the shift's region reads. -/
abbrev MSS (W : World) (b F G D : Nat) (af : Option Addr) (nf capf : Nat) (zf : List Int) (pf : Nat) (jf : Int) (ag : Option Addr) (ng capg : Nat) (zg : List Int) (pg : Nat) (jg : Int) (i : Bool) (m : Int) (k : Nat) (ra : Option Addr) (rn rc : Nat) (u : World) : Prop :=
  u.cell? ⟨F, 0, none⟩ = some (.slice af nf capf) ∧ u.cell? ⟨F, 1, none⟩ = some (.int .i64 pf) ∧ u.cell? ⟨F, 2, none⟩ = some (.int .i64 jf) ∧ u.cell? ⟨G, 0, none⟩ = some (.slice ag ng capg) ∧ u.cell? ⟨G, 1, none⟩ = some (.int .i64 pg) ∧ u.cell? ⟨G, 2, none⟩ = some (.int .i64 jg) ∧ u.cell? ⟨D, 1, none⟩ = some (.int .i64 m) ∧ u.cell? ⟨D, 2, none⟩ = some (.int .i64 k) ∧ Hid (MS W b F G D af nf capf zf pf jf ag ng capg zg pg jg i m k ra rn rc u)
theorem mss_of {W u : World} {b F G D : Nat} {af : Option Addr} {nf capf : Nat} {zf : List Int} {pf : Nat} {jf : Int} {ag : Option Addr} {ng capg : Nat} {zg : List Int} {pg : Nat} {jg : Int} {i : Bool} {m : Int} {k : Nat} {ra : Option Addr} {rn rc : Nat} (h : MS W b F G D af nf capf zf pf jf ag ng capg zg pg jg i m k ra rn rc u) : MSS W b F G D af nf capf zf pf jf ag ng capg zg pg jg i m k ra rn rc u := ⟨h.q.f.box.c0, h.q.f.box.c1, h.q.f.box.c2, h.q.g.box.c0, h.q.g.box.c1, h.q.g.box.c2, h.d.c1, h.d.c2, h⟩
end Go.Proofs.Ytjjaaknjdmijbaa
