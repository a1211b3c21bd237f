/- What the two sides of an adjunction are told by; the state of two walks (DeconvolutionAdjoint, RemainderLeast). By the verifier's side. -/
import Derived.Test.YtcbocglakielnaaTOrdAS
import Derived.Test.YtcbocglakielnaaTPwU
import Derived.Test.YtcbocglakielnaaTRRai
namespace Go.Proofs.Ytcbocglakielnaa
open Go.RowKit
set_option linter.unusedSimpArgs false
set_option linter.unusedVariables false

theorem ole_of_dC {zs ys : List Int} {p q : Nat} {inc jnc : Int} (g : Good zs p inc) (k : Good ys q jnc) (h : ∀ t, dC zs p inc ys q jnc t ≤ 0) (t : Nat) : ole (eC zs p inc t) (eC ys q jnc t) := by
  intro y hy
  have k2 : ¬ (InfC ys ∧ atC ys q jnc t = infV) := fun hx => by rw [eC_none.2 hx] at hy; cases hy
  have e2 : atC ys q jnc t = y := (eC_bd k hy).2.2
  have hd := h t
  unfold dC at hd
  by_cases k1 : InfC zs ∧ atC zs p inc t = infV
  · rw [if_pos k1, if_neg k2] at hd; omega
  · rw [if_neg k1, if_neg k2, e2] at hd
    cases hx : eC zs p inc t with
    | none => exact absurd (eC_none.1 hx) k1
    | some x => exact ⟨x, rfl, by have := (eC_bd g hx).2.2; omega⟩
theorem ratMost_says (a1 : Option Addr) (n1 cap1 : Nat) (z1 : List Int) (p1 : Nat) (i1 : Int) (g1 : Good z1 p1 i1) (a2 : Option Addr) (n2 cap2 : Nat) (z2 : List Int) (p2 : Nat) (i2 : Int) (g2 : Good z2 p2 i2) (b : Bool) (hb : b = true ↔ ∀ t, ole (eC z1 p1 i1 t) (eC z2 p2 i2 t)) (w : World) (h1 : RowZ w a1 n1 cap1 z1) (h2 : RowZ w a2 n2 cap2 z2) :
    Calls Try.prog 30 #[curV a1 n1 cap1 p1 i1, curV a2 n2 cap2 p2 i2] w (Says (.bool b) w) := by
  obtain ⟨t, ok, hE⟩ := excP_ex (dC z1 p1 i1 z2 p2 i2)
  have e : (!ok) = b := by
    cases b with
    | true => rw [(hE.unique (excP_of (hb.1 rfl))).2]; rfl
    | false =>
      cases ok with
      | true => rfl
      | false =>
        rcases hE with ⟨h, _⟩ | ⟨_, _, h⟩
        · cases h
        · exact absurd (hb.2 (ole_of_dC g1 g2 h)) (by decide)
  rw [← e]
  exact ratMost_ok a1 n1 cap1 z1 p1 i1 g1 a2 n2 cap2 z2 p2 i2 g2 t ok w h1 h2 hE

/-- What stands in DeconvolutionAdjoint: four curves in boxes (f, g, h and the deconvolution), and the reader. -/
structure AJ (W : World) (b F G H X : Nat) (af : Option Addr) (nf capf : Nat) (zf : List Int) (pf : Nat) (jf : Int) (ag : Option Addr) (ng capg : Nat) (zg : List Int) (pg : Nat) (jg : Int) (ah : Option Addr) (nh caph : Nat) (zh : List Int) (ph : Nat) (jh : Int) (ax : Option Addr) (nx capx : Nat) (zx : List Int) (px : Nat) (jx : Int) (ra : Option Addr) (rn rc : Nat) (u : World) : Prop where
  f : Bx u F af nf capf pf jf zf
  g : Bx u G ag ng capg pg jg zg
  h : Bx u H ah nh caph ph jh zh
  x : Bx u X ax nx capx px jx zx
  src : SrcAt u b ra rn rc
  below : Below W.heap.size W u
  hb : W.heap.size ≤ b
  bs : b < F ∧ b < G ∧ b < H ∧ b < X ∧ ¬ F = H ∧ ¬ G = H ∧ ¬ X = H
  far : (∀ y, af = some y → ¬ y.block = b) ∧ (∀ y, ag = some y → ¬ y.block = b) ∧ (∀ y, ah = some y → ¬ y.block = b) ∧ (∀ y, ax = some y → ¬ y.block = b)
  ne : (∀ y, af = some y → 1 ≤ nf → y.block ≠ H) ∧ (∀ y, ag = some y → 1 ≤ ng → y.block ≠ H) ∧ (∀ y, ax = some y → 1 ≤ nx → y.block ≠ H)
  src2 : ∀ y, ra = some y → 1 ≤ rn → ¬ y.block = H
section
variable {W u v : World} {b F G H X : Nat} {af : Option Addr} {nf capf : Nat} {zf : List Int} {pf : Nat} {jf : Int} {ag : Option Addr} {ng capg : Nat} {zg : List Int} {pg : Nat} {jg : Int} {ah : Option Addr} {nh caph : Nat} {zh : List Int} {ph : Nat} {jh : Int} {ax : Option Addr} {nx capx : Nat} {zx : List Int} {px : Nat} {jx : Int} {ra : Option Addr} {rn rc : Nat}
theorem AJ.call (k : AJ W b F G H X af nf capf zf pf jf ag ng capg zg pg jg ah nh caph zh ph jh ax nx capx zx px jx ra rn rc u) (hb : Below u.heap.size u v) : AJ W b F G H X af nf capf zf pf jf ag ng capg zg pg jg ah nh caph zh ph jh ax nx capx zx px jx ra rn rc v :=
  ⟨k.f.under hb, k.g.under hb, k.h.under hb, k.x.under hb, src_under k.src hb, k.below.trans (hb.mono k.below.size), k.hb, k.bs, k.far, k.ne, k.src2⟩
theorem SrcAt.store1 {w : World} {b n cap : Nat} {a : Option Addr} (h : SrcAt w b a n cap) {B : Nat} (hB : ¬ b = B) (hx : ∀ x, a = some x → 1 ≤ n → ¬ x.block = B) (i : Nat) (v : Value) : SrcAt (w.setCell ⟨B, i, none⟩ v) b a n cap := by
  obtain ⟨⟨k, hk, hs⟩, hf, hr⟩ := h
  refine ⟨⟨k, hk, (Below.heap_setCell _ _ _ _ hB).trans hs⟩, hf, fun j hj => ?_⟩
  obtain ⟨x, z, h1, h2, h3, h4⟩ := hr j hj
  exact ⟨x, z, h1, h2, (World.cell?_of_block (w := w) (a := x.add j) (Below.heap_setCell _ _ _ _ (by unfold Addr.add; split <;> exact hx x h1 (by omega)))).trans h3, h4⟩
theorem Bx.store3 {u : World} {F B : Nat} {a : Option Addr} {n cap p : Nat} {inc : Int} {zs : List Int} (h : Bx u F a n cap p inc zs) (hB : ¬ F = B) (hx : ∀ x, a = some x → 1 ≤ n → x.block ≠ B) (y0 y1 y2 : Value) : Bx (((u.setCell ⟨B, 0, none⟩ y0).setCell ⟨B, 1, none⟩ y1).setCell ⟨B, 2, none⟩ y2) F a n cap p inc zs :=
  ⟨((h.box.other hB _ _).other hB _ _).other hB _ _, ((h.row.store hx _ _).store hx _ _).store hx _ _⟩
theorem below_s3 {B : Nat} {u w : World} {b i j k : Nat} (h : Below B u w) (hb : B ≤ b) (y0 y1 y2 : Value) : Below B u (((w.setCell ⟨b, i, none⟩ y0).setCell ⟨b, j, none⟩ y1).setCell ⟨b, k, none⟩ y2) :=
  ((h.setCell (p := ⟨b, i, none⟩) hb _).setCell (p := ⟨b, j, none⟩) hb _).setCell (p := ⟨b, k, none⟩) hb _
/-- Another curve is laid into the box H. -/
theorem AJ.lay (k : AJ W b F G H X af nf capf zf pf jf ag ng capg zg pg jg ah nh caph zh ph jh ax nx capx zx px jx ra rn rc u) {ay : Option Addr} {ny capy : Nat} {zy : List Int} {py : Nat} {jy : Int} (hr : RowZ u ay ny capy zy) (h1 : ∀ x, ay = some x → 1 ≤ ny → x.block ≠ H) (h2 : ∀ x, ay = some x → ¬ x.block = b) :
    AJ W b F G H X af nf capf zf pf jf ag ng capg zg pg jg ay ny capy zy py jy ax nx capx zx px jx ra rn rc (((u.setCell ⟨H, 0, none⟩ (.slice ay ny capy)).setCell ⟨H, 1, none⟩ (.int .i64 py)).setCell ⟨H, 2, none⟩ (.int .i64 jy)) := by
  have hh := k.bs
  have hbH : ¬ b = H := by omega
  exact ⟨k.f.store3 hh.2.2.2.2.1 k.ne.1 _ _ _, k.g.store3 hh.2.2.2.2.2.1 k.ne.2.1 _ _ _, ⟨k.h.box.set _ _ _, ((hr.store h1 _ _).store h1 _ _).store h1 _ _⟩, k.x.store3 hh.2.2.2.2.2.2 k.ne.2.2 _ _ _,
    ((k.src.store1 hbH k.src2 _ _).store1 hbH k.src2 _ _).store1 hbH k.src2 _ _, below_s3 k.below (by have := k.hb; omega) _ _ _, k.hb, hh, ⟨k.far.1, k.far.2.1, h2, k.far.2.2.2⟩, k.ne, k.src2⟩
end
/-- The end: f, h, the deconvolution x and the convolution y, in their boxes. -/
structure AE (W : World) (F H X Y : Nat) (af : Option Addr) (nf capf : Nat) (zf : List Int) (pf : Nat) (jf : Int) (ah : Option Addr) (nh caph : Nat) (zh : List Int) (ph : Nat) (jh : Int) (ax : Option Addr) (nx capx : Nat) (zx : List Int) (px : Nat) (jx : Int) (ay : Option Addr) (ny capy : Nat) (zy : List Int) (py : Nat) (jy : Int) (u : World) : Prop where
  f : Bx u F af nf capf pf jf zf
  h : Bx u H ah nh caph ph jh zh
  x : Bx u X ax nx capx px jx zx
  y : Bx u Y ay ny capy py jy zy
  below : Below W.heap.size W u
theorem AE.call {W u v : World} {F H X Y : Nat} {af : Option Addr} {nf capf : Nat} {zf : List Int} {pf : Nat} {jf : Int} {ah : Option Addr} {nh caph : Nat} {zh : List Int} {ph : Nat} {jh : Int} {ax : Option Addr} {nx capx : Nat} {zx : List Int} {px : Nat} {jx : Int} {ay : Option Addr} {ny capy : Nat} {zy : List Int} {py : Nat} {jy : Int} (k : AE W F H X Y af nf capf zf pf jf ah nh caph zh ph jh ax nx capx zx px jx ay ny capy zy py jy u) (hb : Below u.heap.size u v) : AE W F H X Y af nf capf zf pf jf ah nh caph zh ph jh ax nx capx zx px jx ay ny capy zy py jy v :=
  ⟨k.f.under hb, k.h.under hb, k.x.under hb, k.y.under hb, k.below.trans (hb.mono k.below.size)⟩
end Go.Proofs.Ytcbocglakielnaa
