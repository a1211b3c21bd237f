/- The walk of DeconvolutionAdjoint. By the verifier's side. -/
import Derived.Test.YtcbocglakielnaaADecDDecEDecFDecHDecG
import Derived.Test.YtcbocglakielnaaAOrdAS
import Derived.Test.YtcbocglakielnaaAConER
import Derived.Test.YtcbocglakielnaaARRai
namespace Go.Proofs.Ytcbocglakielnaa
open Go.RowKit
set_option linter.unusedSimpArgs false
set_option linter.unusedVariables false

theorem ole_of_dC {zs ys : List Int} {p q : Nat} {inc jnc : Int} (g : Good zs p inc) (k : Good ys q jnc) (h : ∀ t, dC zs p inc ys q jnc t ≤ 0) (t : Nat) : ole (eC zs p inc t) (eC ys q jnc t) := by
  intro y hy
  have k2 : ¬ (InfC ys ∧ atC ys q jnc t = infV) := fun hx => by rw [eC_none.2 hx] at hy; cases hy
  have e2 : atC ys q jnc t = y := (eC_bd k hy).2.2
  have hd := h t
  unfold dC at hd
  by_cases k1 : InfC zs ∧ atC zs p inc t = infV
  · rw [if_pos k1, if_neg k2] at hd; omega
  · rw [if_neg k1, if_neg k2, e2] at hd
    cases hx : eC zs p inc t with
    | none => exact absurd (eC_none.1 hx) k1
    | some x => exact ⟨x, rfl, by have := (eC_bd g hx).2.2; omega⟩
theorem ratMost_says (a1 : Option Addr) (n1 cap1 : Nat) (z1 : List Int) (p1 : Nat) (i1 : Int) (g1 : Good z1 p1 i1) (a2 : Option Addr) (n2 cap2 : Nat) (z2 : List Int) (p2 : Nat) (i2 : Int) (g2 : Good z2 p2 i2) (b : Bool) (hb : b = true ↔ ∀ t, ole (eC z1 p1 i1 t) (eC z2 p2 i2 t)) (w : World) (h1 : RowZ w a1 n1 cap1 z1) (h2 : RowZ w a2 n2 cap2 z2) :
    Calls Try.prog 30 #[curV a1 n1 cap1 p1 i1, curV a2 n2 cap2 p2 i2] w (Says (.bool b) w) := by
  obtain ⟨t, ok, hE⟩ := excP_ex (dC z1 p1 i1 z2 p2 i2)
  have e : (!ok) = b := by
    cases b with
    | true => rw [(hE.unique (excP_of (hb.1 rfl))).2]; rfl
    | false =>
      cases ok with
      | true => rfl
      | false =>
        rcases hE with ⟨h, _⟩ | ⟨_, _, h⟩
        · cases h
        · exact absurd (hb.2 (ole_of_dC g1 g2 h)) (by decide)
  rw [← e]
  exact ratMost_ok a1 n1 cap1 z1 p1 i1 g1 a2 n2 cap2 z2 p2 i2 g2 t ok w h1 h2 hE

/-- What stands in DeconvolutionAdjoint: four curves in boxes (f, g, h and the deconvolution), and the reader. -/
structure AJ (W : World) (b F G H X : Nat) (af : Option Addr) (nf capf : Nat) (zf : List Int) (pf : Nat) (jf : Int) (ag : Option Addr) (ng capg : Nat) (zg : List Int) (pg : Nat) (jg : Int) (ah : Option Addr) (nh caph : Nat) (zh : List Int) (ph : Nat) (jh : Int) (ax : Option Addr) (nx capx : Nat) (zx : List Int) (px : Nat) (jx : Int) (ra : Option Addr) (rn rc : Nat) (u : World) : Prop where
  f : Bx u F af nf capf pf jf zf
  g : Bx u G ag ng capg pg jg zg
  h : Bx u H ah nh caph ph jh zh
  x : Bx u X ax nx capx px jx zx
  src : SrcAt u b ra rn rc
  below : Below W.heap.size W u
  hb : W.heap.size ≤ b
  bs : b < F ∧ b < G ∧ b < H ∧ b < X ∧ ¬ F = H ∧ ¬ G = H ∧ ¬ X = H
  far : (∀ y, af = some y → ¬ y.block = b) ∧ (∀ y, ag = some y → ¬ y.block = b) ∧ (∀ y, ah = some y → ¬ y.block = b) ∧ (∀ y, ax = some y → ¬ y.block = b)
  ne : (∀ y, af = some y → 1 ≤ nf → y.block ≠ H) ∧ (∀ y, ag = some y → 1 ≤ ng → y.block ≠ H) ∧ (∀ y, ax = some y → 1 ≤ nx → y.block ≠ H)
  src2 : ∀ y, ra = some y → 1 ≤ rn → ¬ y.block = H
section
variable {W u v : World} {b F G H X : Nat} {af : Option Addr} {nf capf : Nat} {zf : List Int} {pf : Nat} {jf : Int} {ag : Option Addr} {ng capg : Nat} {zg : List Int} {pg : Nat} {jg : Int} {ah : Option Addr} {nh caph : Nat} {zh : List Int} {ph : Nat} {jh : Int} {ax : Option Addr} {nx capx : Nat} {zx : List Int} {px : Nat} {jx : Int} {ra : Option Addr} {rn rc : Nat}
theorem AJ.call (k : AJ W b F G H X af nf capf zf pf jf ag ng capg zg pg jg ah nh caph zh ph jh ax nx capx zx px jx ra rn rc u) (hb : Below u.heap.size u v) : AJ W b F G H X af nf capf zf pf jf ag ng capg zg pg jg ah nh caph zh ph jh ax nx capx zx px jx ra rn rc v :=
  ⟨k.f.under hb, k.g.under hb, k.h.under hb, k.x.under hb, src_under k.src hb, k.below.trans (hb.mono k.below.size), k.hb, k.bs, k.far, k.ne, k.src2⟩
theorem AJ.read (k : AJ W b F G H X af nf capf zf pf jf ag ng capg zg pg jg ah nh caph zh ph jh ax nx capx zx px jx ra rn rc u) (hs : SrcAt v b ra rn rc) (ha : Apart b u v) : AJ W b F G H X af nf capf zf pf jf ag ng capg zg pg jg ah nh caph zh ph jh ax nx capx zx px jx ra rn rc v := by
  have h1 := k.bs
  exact ⟨k.f.apart ha (by omega) k.far.1, k.g.apart ha (by omega) k.far.2.1, k.h.apart ha (by omega) k.far.2.2.1, k.x.apart ha (by omega) k.far.2.2.2, hs, k.below.trans (ha.below k.hb k.below.size), k.hb, k.bs, k.far, k.ne, k.src2⟩
theorem SrcAt.store1 {w : World} {b n cap : Nat} {a : Option Addr} (h : SrcAt w b a n cap) {B : Nat} (hB : ¬ b = B) (hx : ∀ x, a = some x → 1 ≤ n → ¬ x.block = B) (i : Nat) (v : Value) : SrcAt (w.setCell ⟨B, i, none⟩ v) b a n cap := by
  obtain ⟨⟨k, hk, hs⟩, hf, hr⟩ := h
  refine ⟨⟨k, hk, (Below.heap_setCell _ _ _ _ hB).trans hs⟩, hf, fun j hj => ?_⟩
  obtain ⟨x, z, h1, h2, h3, h4⟩ := hr j hj
  exact ⟨x, z, h1, h2, (World.cell?_of_block (w := w) (a := x.add j) (Below.heap_setCell _ _ _ _ (by unfold Addr.add; split <;> exact hx x h1 (by omega)))).trans h3, h4⟩
theorem Bx.store3 {u : World} {F B : Nat} {a : Option Addr} {n cap p : Nat} {inc : Int} {zs : List Int} (h : Bx u F a n cap p inc zs) (hB : ¬ F = B) (hx : ∀ x, a = some x → 1 ≤ n → x.block ≠ B) (y0 y1 y2 : Value) : Bx (((u.setCell ⟨B, 0, none⟩ y0).setCell ⟨B, 1, none⟩ y1).setCell ⟨B, 2, none⟩ y2) F a n cap p inc zs :=
  ⟨((h.box.other hB _ _).other hB _ _).other hB _ _, ((h.row.store hx _ _).store hx _ _).store hx _ _⟩
theorem below_s3 {B : Nat} {u w : World} {b i j k : Nat} (h : Below B u w) (hb : B ≤ b) (y0 y1 y2 : Value) : Below B u (((w.setCell ⟨b, i, none⟩ y0).setCell ⟨b, j, none⟩ y1).setCell ⟨b, k, none⟩ y2) :=
  ((h.setCell (p := ⟨b, i, none⟩) hb _).setCell (p := ⟨b, j, none⟩) hb _).setCell (p := ⟨b, k, none⟩) hb _
/-- Another curve is laid into the box H. -/
theorem AJ.lay (k : AJ W b F G H X af nf capf zf pf jf ag ng capg zg pg jg ah nh caph zh ph jh ax nx capx zx px jx ra rn rc u) {ay : Option Addr} {ny capy : Nat} {zy : List Int} {py : Nat} {jy : Int} (hr : RowZ u ay ny capy zy) (h1 : ∀ x, ay = some x → 1 ≤ ny → x.block ≠ H) (h2 : ∀ x, ay = some x → ¬ x.block = b) :
    AJ W b F G H X af nf capf zf pf jf ag ng capg zg pg jg ay ny capy zy py jy ax nx capx zx px jx ra rn rc (((u.setCell ⟨H, 0, none⟩ (.slice ay ny capy)).setCell ⟨H, 1, none⟩ (.int .i64 py)).setCell ⟨H, 2, none⟩ (.int .i64 jy)) := by
  have hh := k.bs
  have hbH : ¬ b = H := by omega
  exact ⟨k.f.store3 hh.2.2.2.2.1 k.ne.1 _ _ _, k.g.store3 hh.2.2.2.2.2.1 k.ne.2.1 _ _ _, ⟨k.h.box.set _ _ _, ((hr.store h1 _ _).store h1 _ _).store h1 _ _⟩, k.x.store3 hh.2.2.2.2.2.2 k.ne.2.2 _ _ _,
    ((k.src.store1 hbH k.src2 _ _).store1 hbH k.src2 _ _).store1 hbH k.src2 _ _, below_s3 k.below (by have := k.hb; omega) _ _ _, k.hb, hh, ⟨k.far.1, k.far.2.1, h2, k.far.2.2.2⟩, k.ne, k.src2⟩
/-- A store into a box that is younger than all of them. -/
theorem AJ.oth (k : AJ W b F G H X af nf capf zf pf jf ag ng capg zg pg jg ax nx capx zx px jx ax nx capx zx px jx ra rn rc u) {B : Nat} (hB : F < B ∧ G < B ∧ H < B ∧ X < B) (hr : (∀ y, af = some y → 1 ≤ nf → y.block ≠ B) ∧ (∀ y, ag = some y → 1 ≤ ng → y.block ≠ B) ∧ (∀ y, ax = some y → 1 ≤ nx → y.block ≠ B) ∧ (∀ y, ra = some y → 1 ≤ rn → ¬ y.block = B)) (y0 y1 y2 : Value) :
    AJ W b F G H X af nf capf zf pf jf ag ng capg zg pg jg ax nx capx zx px jx ax nx capx zx px jx ra rn rc (((u.setCell ⟨B, 0, none⟩ y0).setCell ⟨B, 1, none⟩ y1).setCell ⟨B, 2, none⟩ y2) := by
  have hh := k.bs
  have h2 := k.hb
  have hbB : ¬ b = B := by omega
  exact ⟨k.f.store3 (by omega) hr.1 _ _ _, k.g.store3 (by omega) hr.2.1 _ _ _, k.h.store3 (by omega) hr.2.2.1 _ _ _, k.x.store3 (by omega) hr.2.2.1 _ _ _,
    ((k.src.store1 hbB hr.2.2.2 _ _).store1 hbB hr.2.2.2 _ _).store1 hbB hr.2.2.2 _ _, below_s3 k.below (by omega) _ _ _, k.hb, hh, k.far, k.ne, k.src2⟩
end
abbrev AJS (W : World) (b F G H X : Nat) (af : Option Addr) (nf capf : Nat) (zf : List Int) (pf : Nat) (jf : Int) (ag : Option Addr) (ng capg : Nat) (zg : List Int) (pg : Nat) (jg : Int) (ah : Option Addr) (nh caph : Nat) (zh : List Int) (ph : Nat) (jh : Int) (ax : Option Addr) (nx capx : Nat) (zx : List Int) (px : Nat) (jx : Int) (ra : Option Addr) (rn rc : Nat) (u : World) : Prop :=
  u.cell? ⟨X, 0, none⟩ = some (.slice ax nx capx) ∧ u.cell? ⟨X, 1, none⟩ = some (.int .i64 px) ∧ u.cell? ⟨X, 2, none⟩ = some (.int .i64 jx) ∧ Hid (AJ W b F G H X af nf capf zf pf jf ag ng capg zg pg jg ah nh caph zh ph jh ax nx capx zx px jx ra rn rc u)
theorem ajs_of {W u : World} {b F G H X : Nat} {af : Option Addr} {nf capf : Nat} {zf : List Int} {pf : Nat} {jf : Int} {ag : Option Addr} {ng capg : Nat} {zg : List Int} {pg : Nat} {jg : Int} {ah : Option Addr} {nh caph : Nat} {zh : List Int} {ph : Nat} {jh : Int} {ax : Option Addr} {nx capx : Nat} {zx : List Int} {px : Nat} {jx : Int} {ra : Option Addr} {rn rc : Nat} (h : AJ W b F G H X af nf capf zf pf jf ag ng capg zg pg jg ah nh caph zh ph jh ax nx capx zx px jx ra rn rc u) : AJS W b F G H X af nf capf zf pf jf ag ng capg zg pg jg ah nh caph zh ph jh ax nx capx zx px jx ra rn rc u := ⟨h.x.box.c0, h.x.box.c1, h.x.box.c2, h⟩

/-- The end: f, h, the deconvolution x and the convolution y, in their boxes. -/
structure AE (W : World) (F H X Y : Nat) (af : Option Addr) (nf capf : Nat) (zf : List Int) (pf : Nat) (jf : Int) (ah : Option Addr) (nh caph : Nat) (zh : List Int) (ph : Nat) (jh : Int) (ax : Option Addr) (nx capx : Nat) (zx : List Int) (px : Nat) (jx : Int) (ay : Option Addr) (ny capy : Nat) (zy : List Int) (py : Nat) (jy : Int) (u : World) : Prop where
  f : Bx u F af nf capf pf jf zf
  h : Bx u H ah nh caph ph jh zh
  x : Bx u X ax nx capx px jx zx
  y : Bx u Y ay ny capy py jy zy
  below : Below W.heap.size W u
theorem AE.call {W u v : World} {F H X Y : Nat} {af : Option Addr} {nf capf : Nat} {zf : List Int} {pf : Nat} {jf : Int} {ah : Option Addr} {nh caph : Nat} {zh : List Int} {ph : Nat} {jh : Int} {ax : Option Addr} {nx capx : Nat} {zx : List Int} {px : Nat} {jx : Int} {ay : Option Addr} {ny capy : Nat} {zy : List Int} {py : Nat} {jy : Int} (k : AE W F H X Y af nf capf zf pf jf ah nh caph zh ph jh ax nx capx zx px jx ay ny capy zy py jy u) (hb : Below u.heap.size u v) : AE W F H X Y af nf capf zf pf jf ah nh caph zh ph jh ax nx capx zx px jx ay ny capy zy py jy v :=
  ⟨k.f.under hb, k.h.under hb, k.x.under hb, k.y.under hb, k.below.trans (hb.mono k.below.size)⟩
abbrev AES (W : World) (F H X Y : Nat) (af : Option Addr) (nf capf : Nat) (zf : List Int) (pf : Nat) (jf : Int) (ah : Option Addr) (nh caph : Nat) (zh : List Int) (ph : Nat) (jh : Int) (ax : Option Addr) (nx capx : Nat) (zx : List Int) (px : Nat) (jx : Int) (ay : Option Addr) (ny capy : Nat) (zy : List Int) (py : Nat) (jy : Int) (u : World) : Prop :=
  (u.cell? ⟨F, 0, none⟩ = some (.slice af nf capf) ∧ u.cell? ⟨F, 1, none⟩ = some (.int .i64 pf) ∧ u.cell? ⟨F, 2, none⟩ = some (.int .i64 jf)) ∧ (u.cell? ⟨H, 0, none⟩ = some (.slice ah nh caph) ∧ u.cell? ⟨H, 1, none⟩ = some (.int .i64 ph) ∧ u.cell? ⟨H, 2, none⟩ = some (.int .i64 jh)) ∧ (u.cell? ⟨X, 0, none⟩ = some (.slice ax nx capx) ∧ u.cell? ⟨X, 1, none⟩ = some (.int .i64 px) ∧ u.cell? ⟨X, 2, none⟩ = some (.int .i64 jx)) ∧ (u.cell? ⟨Y, 0, none⟩ = some (.slice ay ny capy) ∧ u.cell? ⟨Y, 1, none⟩ = some (.int .i64 py) ∧ u.cell? ⟨Y, 2, none⟩ = some (.int .i64 jy)) ∧ Hid (AE W F H X Y af nf capf zf pf jf ah nh caph zh ph jh ax nx capx zx px jx ay ny capy zy py jy u)
theorem aes_of {W u : World} {F H X Y : Nat} {af : Option Addr} {nf capf : Nat} {zf : List Int} {pf : Nat} {jf : Int} {ah : Option Addr} {nh caph : Nat} {zh : List Int} {ph : Nat} {jh : Int} {ax : Option Addr} {nx capx : Nat} {zx : List Int} {px : Nat} {jx : Int} {ay : Option Addr} {ny capy : Nat} {zy : List Int} {py : Nat} {jy : Int} (h : AE W F H X Y af nf capf zf pf jf ah nh caph zh ph jh ax nx capx zx px jx ay ny capy zy py jy u) : AES W F H X Y af nf capf zf pf jf ah nh caph zh ph jh ax nx capx zx px jx ay ny capy zy py jy u :=
  ⟨⟨h.f.box.c0, h.f.box.c1, h.f.box.c2⟩, ⟨h.h.box.c0, h.h.box.c1, h.h.box.c2⟩, ⟨h.x.box.c0, h.x.box.c1, h.x.box.c2⟩, ⟨h.y.box.c0, h.y.box.c1, h.y.box.c2⟩, h⟩

theorem src_far1 {w : World} {b n cap : Nat} {a : Option Addr} (h : SrcAt w b a n cap) : ∀ x, a = some x → 1 ≤ n → x.block < w.heap.size := fun x hx hn => by
  obtain ⟨y, z, h1, h2, h3, h4⟩ := h.row 0 (by omega)
  rw [hx] at h1; cases h1
  have := lt_of_cell h3
  unfold Addr.add at this; split at this <;> exact this
theorem my_form1 {E : Nat → Option Int} {zs : List Int} {p inc : Int} (h : MY E zs p inc 0) : ∃ q : Nat, p = q ∧ EForm zs q inc E := by
  rcases h with ⟨_, q, hq, hf⟩ | ⟨h, _⟩
  · exact ⟨q, hq, hf⟩
  · exact absurd rfl h
/-- What is told of a raised curve. -/
def Raised (zs : List Int) (p : Nat) (inc : Int) (ys : List Int) (q c : Int) (jnc : Int) : Prop := ∃ ci : Int, MY (eRaise ci zs p inc) ys q jnc c

set_option maxRecDepth 100000 in
set_option maxHeartbeats 6400000 in
theorem deconvolutionAdjoint_walk (W : World) (a : Option Addr) (n cap : Nat) (hrow : RowAt W a n cap) :
    Calls Try.prog 9 #[.slice a n cap] W fun e w' => e = .returned (.bool true) ∧ Below W.heap.size W w' := by
  have HR := Lib.hid hrow
  clear hrow
  go_enter Try.func9, Try.ntmps9
  go_wp2_with fail
  refine (new_any a n cap _ HR.out).mono ?_
  rintro e u1 ⟨rfl, hb1, hz1, ra, rn, rc, hs1⟩
  have HB1 := Lib.hid hb1
  have HS1 := Lib.hid hs1
  have Z1 := Lib.hid hz1
  clear hb1 hz1 hs1
  go_wp2_with fail
  refine (curve_any 5 (by omega) (by omega) _ ra rn rc _ HS1.out).mono ?_
  rintro e u2 ⟨af, nf, capf, zf, pf, jf, rfl, hs2, he2, hr2, ok2, hx2⟩
  have OF := Lib.hid (And.intro ok2.good (drawn_nice ok2 (by omega)).day)
  have HS2 := Lib.hid hs2
  have R2 := Lib.hid hr2
  have X2 := Lib.hid (show ∀ x, af = some x → ¬ x.block = W.heap.size from fun x hx => by have := hx2 x hx; have := Z1.out; omega)
  have HB2 := Lib.hid (HB1.out.trans (he2.below (Nat.le_refl _) HB1.out.size))
  clear hs2 he2 hr2 ok2 hx2
  go_wp2_with fail
  refine (second_any 4 (by omega) (by omega) _ ra rn rc _ HS2.out).mono ?_
  rintro e u3 ⟨ag, ng, capg, zg, pg, jg, rfl, hs3, he3, hr3, hg3, h03, hn3, hx3⟩
  have OG := Lib.hid (And.intro hg3 (And.intro hn3.day h03))
  have HS3 := Lib.hid hs3
  have R3 := Lib.hid (And.intro (R2.out.apart he3 X2.out) hr3)
  have h9 : W.heap.size < u2.heap.size := lt_of_cell (src_cell HS2.out)
  have X3 := Lib.hid (show ∀ x, ag = some x → ¬ x.block = W.heap.size from fun x hx => by have := hx3 x hx; omega)
  have HB3 := Lib.hid (HB2.out.trans (he3.below (Nat.le_refl _) HB2.out.size))
  clear hs3 he3 hr3 hg3 h03 hn3 hx3 h9
  go_wp2_with fail
  refine (curve_any 5 (by omega) (by omega) _ ra rn rc _ HS3.out).mono ?_
  rintro e u4 ⟨ah, nh, caph, zh, ph, jh, rfl, hs4, he4, hr4, ok4, hx4⟩
  have OH := Lib.hid (And.intro ok4.good (drawn_nice ok4 (by omega)).day)
  have HS4 := Lib.hid hs4
  have R4 := Lib.hid (And.intro (R3.out.1.apart he4 X2.out) (And.intro (R3.out.2.apart he4 X3.out) hr4))
  have h9 : W.heap.size < u3.heap.size := lt_of_cell (src_cell HS3.out)
  have X4 := Lib.hid (show ∀ x, ah = some x → ¬ x.block = W.heap.size from fun x hx => by have := hx4 x hx; omega)
  have HB4 := Lib.hid (HB3.out.trans (he4.below (Nat.le_refl _) HB3.out.size))
  clear hs4 he4 hr4 ok4 hx4 h9
  obtain ⟨w0, hw⟩ : ∃ w', ((u4.alloc (.cells #[.slice af nf capf, .int .i64 pf, .int .i64 jf] 24)).alloc (.cells #[.slice ag ng capg, .int .i64 pg, .int .i64 jg] 24)).alloc (.cells #[.slice ah nh caph, .int .i64 ph, .int .i64 jh] 24) = w' := ⟨_, rfl⟩
  have hz : Below u4.heap.size u4 w0 := by rw [← hw]; exact ((below_box _).alloc (by simp) _).alloc (by simp; omega) _
  have Xf := Lib.hid (show Bx w0 u4.heap.size af nf capf pf jf zf by rw [← hw]; exact ((Bx.new R4.out.1).under (below_box _)).under (below_box _))
  have Xg := Lib.hid (show Bx w0 (u4.heap.size + 1) ag ng capg pg jg zg by
    rw [← hw]
    have := (Bx.new (p := pg) (inc := jg) (R4.out.2.1.alloc (.cells #[.slice af nf capf, .int .i64 pf, .int .i64 jf] 24))).under (below_box (.cells #[.slice ah nh caph, .int .i64 ph, .int .i64 jh] 24))
    rwa [show (u4.alloc (.cells #[.slice af nf capf, .int .i64 pf, .int .i64 jf] 24)).heap.size = u4.heap.size + 1 by simp] at this)
  have Xh := Lib.hid (show Bx w0 (u4.heap.size + 1 + 1) ah nh caph ph jh zh by
    rw [← hw]
    have := Bx.new (p := ph) (inc := jh) ((R4.out.2.2.alloc (.cells #[.slice af nf capf, .int .i64 pf, .int .i64 jf] 24)).alloc (.cells #[.slice ag ng capg, .int .i64 pg, .int .i64 jg] 24))
    rwa [show ((u4.alloc (.cells #[.slice af nf capf, .int .i64 pf, .int .i64 jf] 24)).alloc (.cells #[.slice ag ng capg, .int .i64 pg, .int .i64 jg] 24)).heap.size = u4.heap.size + 1 + 1 by simp] at this)
  have SR := Lib.hid (src_under HS4.out hz)
  have HB5 := Lib.hid (HB4.out.trans (hz.mono HB4.out.size))
  have SW0 := Lib.hid (show u4.heap.size + 3 = w0.heap.size by rw [← hw]; simp)
  have SB := Lib.hid (lt_of_cell (src_cell HS4.out))
  have FF := Lib.hid (And.intro R4.out.1.far (And.intro R4.out.2.1.far (And.intro R4.out.2.2.far (src_far1 HS4.out))))
  have HW0 := Lib.hid hw
  clear hw hz HB1 HB2 HB3 HB4 HS1 HS2 HS3 HS4 R2 R3 R4
  go_upto_region 3 with fail
  try rw [HW0.out]
  clear HW0
  obtain ⟨F, hF⟩ : ∃ F, u4.heap.size = F := ⟨_, rfl⟩
  rw [hF] at Xf Xg Xh SW0 SB FF ⊢
  clear hF
  obtain ⟨G, hG⟩ : ∃ G, F + 1 = G := ⟨_, rfl⟩
  rw [hG] at Xg Xh ⊢
  obtain ⟨H, hH⟩ : ∃ H, G + 1 = H := ⟨_, rfl⟩
  rw [hH] at Xh ⊢
  have HGH := Lib.hid (And.intro hG hH)
  clear hG hH
  obtain ⟨c0, c1, c2, c3, c4, c5⟩ := Xf.out.box
  obtain ⟨d0, d1, d2, d3, d4, d5⟩ := Xg.out.box
  go_wp2_with fail
  clear c0 c1 c2 c3 c4 c5 d0 d1 d2 d3 d4 d5
  with_reducible refine (dof_day af nf capf zf pf jf OF.out.1 ag ng capg zg pg jg OG.out.1 OG.out.2.2 OF.out.2 OG.out.2.1 _ Xf.out.row Xg.out.row).mono ?_
  rintro e v1 ⟨hb, ⟨ax, nx, capx, zx, px, jx, rfl, hr, hf, hx⟩ | ⟨rfl, hno⟩⟩
  rotate_left
  · have HBQ := Lib.hid (HB5.out.trans ((hb.trans ((below_box (.cells #[.slice none 0 0, .int .i64 0, .int .i64 0] 24)).mono hb.size)).mono HB5.out.size))
    clear hb hno
    go_wp2_with fail
    refine (awake8 _).mono ?_
    rintro e y9 ⟨rfl, hb⟩
    have HBZ := Lib.hid (HBQ.out.trans (hb.mono HBQ.out.size))
    clear hb
    go_wp2_with fail
    go_ret
    exact ⟨rfl, HBZ.out⟩
  obtain ⟨w1, hw⟩ : ∃ w', v1.alloc (.cells #[.slice ax nx capx, .int .i64 px, .int .i64 jx] 24) = w' := ⟨_, rfl⟩
  have hz : Below w0.heap.size w0 w1 := by rw [← hw]; exact hb.trans ((below_box _).mono hb.size)
  obtain ⟨X, hX⟩ : ∃ X, v1.heap.size = X := ⟨_, rfl⟩
  have hXs : w0.heap.size ≤ X := by rw [← hX]; exact hb.size
  have OX := Lib.hid (And.intro hf ((dec_day OF.out.1 OG.out.1 OG.out.2.2 OF.out.2 OG.out.2.1).of hf.val))
  have J1 := Lib.hid (show AJ W W.heap.size F G H X af nf capf zf pf jf ag ng capg zg pg jg ah nh caph zh ph jh ax nx capx zx px jx ra rn rc w1 from ⟨Xf.out.under hz, Xg.out.under hz, Xh.out.under hz, by rw [← hw, ← hX]; exact Bx.new hr, src_under SR.out hz, HB5.out.trans (hz.mono HB5.out.size), Nat.le_refl _,
    by have := SB.out; have := SW0.out; have := HGH.out; omega,
    ⟨X2.out, X3.out, X4.out, fun y hy => by have := hx y hy; have := SB.out; have := SW0.out; omega⟩,
    ⟨fun y hy hn => by have := FF.out.1 y hy hn; have := HGH.out; omega, fun y hy hn => by have := FF.out.2.1 y hy hn; have := HGH.out; omega, fun y hy hn => by have := hx y hy; have := SW0.out; have := HGH.out; omega⟩,
    fun y hy hn => by have := FF.out.2.2.2 y hy hn; have := HGH.out; omega⟩)
  have HW1 := Lib.hid hw
  have HXE := Lib.hid hX
  clear hb hr hf hx hz hw hX hXs Xf Xg Xh SR HB5 SW0 SB FF HGH X2 X3 X4
  go_upto_region 4 with fail
  try rw [HW1.out]
  try rw [HXE.out]
  go_upto_region 6 with fail
  go_wp2_with fail
  refine (n_any 2 (by omega) (by omega) _ ra rn rc _ J1.out.src).mono ?_
  rintro e w2 ⟨r, hr, rfl, hs, he⟩
  have J2 := Lib.hid (J1.out.read hs he.apart)
  clear hs he hr J1 HW1 HXE
  go_upto_if 36 with fail
  go_cut [] (fun wx => ∃ (ah : Option Addr) (nh caph : Nat) (zh : List Int) (ph : Nat) (jh : Int), Hid (Good zh ph jh ∧ Day (eC zh ph jh)) ∧ Hid (AJ W W.heap.size F G H X af nf capf zf pf jf ag ng capg zg pg jg ah nh caph zh ph jh ax nx capx zx px jx ra rn rc wx))
  case first =>
    by_cases hr0 : r = 0
    rotate_left
    · have t0 : (r == 0) = false := by simpa using hr0
      clear hr0
      go_wp2_with fail
      go_meet
      exact ⟨ah, nh, caph, zh, ph, jh, OH, J2⟩
    have t0 : (r == 0) = true := by simpa using hr0
    clear hr0
    have hneX : ∀ x, ax = some x → 1 ≤ nx → x.block ≠ H := J2.out.ne.2.2
    have hfbX : ∀ x, ax = some x → ¬ x.block = W.heap.size := J2.out.far.2.2.2
    obtain ⟨w3, hw3⟩ : ∃ w', ((w2.setCell ⟨H, 0, none⟩ (.slice ax nx capx)).setCell ⟨H, 1, none⟩ (.int .i64 px)).setCell ⟨H, 2, none⟩ (.int .i64 jx) = w' := ⟨_, rfl⟩
    have J3 := Lib.hid (show AJ W W.heap.size F G H X af nf capf zf pf jf ag ng capg zg pg jg ax nx capx zx px jx ax nx capx zx px jx ra rn rc w3 by rw [← hw3]; exact J2.out.lay (zy := zx) J2.out.x.row hneX hfbX)
    have GX := Lib.hid (And.intro OX.out.1.good OX.out.2)
    have HW3 := Lib.hid hw3
    obtain ⟨c0, c1, c2, c3, c4, c5⟩ := J2.out.x.box
    obtain ⟨d0, d1, d2, d3, d4, d5⟩ := J2.out.h.box
    clear hw3 hneX hfbX
    go_upto_region 8 with fail
    try rw [HW3.out]
    clear c0 c1 c2 c3 c4 c5 d0 d1 d2 d3 d4 d5 J2 HW3
    have Q0 := Lib.hid (J3.out.call (Below.refl _ _).drew)
    go_cut [9, 10] (fun s9 s10 wx => ∃ (V : Nat) (av : Option Addr) (nv capv : Nat) (zv : List Int) (pv jv c : Int), s9 = .pointer (some ⟨V, 0, none⟩) ∧ s10 = .int .i64 c ∧ Hid ((∀ y, av = some y → ¬ y.block = H ∧ ¬ y.block = W.heap.size) ∧ W.heap.size < V) ∧ Hid (BxI wx V av nv capv pv jv zv) ∧ Hid (Raised zx px jx zv pv c jv) ∧ Hid (AJ W W.heap.size F G H X af nf capf zf pf jf ag ng capg zg pg jg ax nx capx zx px jx ax nx capx zx px jx ra rn rc wx))
    case first =>
      have QF := Lib.hid (show (∀ y, af = some y → 1 ≤ nf → y.block < w3.heap.size) ∧ (∀ y, ag = some y → 1 ≤ ng → y.block < w3.heap.size) ∧ (∀ y, ax = some y → 1 ≤ nx → y.block < w3.heap.size) ∧ (∀ y, ra = some y → 1 ≤ rn → y.block < w3.heap.size) from ⟨J3.out.f.row.far, J3.out.g.row.far, J3.out.x.row.far, src_far1 J3.out.src⟩)
      refine wp_region_keeps (fun u => AJS W W.heap.size F G H X af nf capf zf pf jf ag ng capg zg pg jg ax nx capx zx px jx ax nx capx zx px jx ra rn rc u) 9 1 (by kernel_rfl) (by kernel_rfl) (ajs_of Q0.out) (fun hHeld0 => ?_)
      refine wpAnyK_take (i := 0) (v := ?_) rfl (by kernel_rfl) (fun _ _ _ h => h) (Or.inl ⟨by rfl, ?_⟩) (by assumption) ?_
      rotate_left
      · (intro w hSw; (try dsimp only at hSw); go_simp; try with_reducible rfl)
      try simp only [Act.put, List.getElem_toArray, List.getElem_cons_zero, List.getElem_cons_succ, List.setIfInBounds_toArray, List.set_cons_zero, List.set_cons_succ]
      refine wpAnyK_take (i := 1) (v := ?_) rfl (by kernel_rfl) (fun _ _ _ h => h) (Or.inl ⟨by rfl, ?_⟩) (by assumption) ?_
      rotate_left
      · (intro w hSw; (try dsimp only at hSw); go_simp; try with_reducible rfl)
      try simp only [Act.put, List.getElem_toArray, List.getElem_cons_zero, List.getElem_cons_succ, List.setIfInBounds_toArray, List.set_cons_zero, List.set_cons_succ]
      refine wpAnyK_two (i := 2) (j := 7) rfl rfl (by kernel_rfl) (fun K hK => ?_) (fun K hK => ?_)
      · go_simp
        refine (n_any 3 (by omega) (by omega) _ ra rn rc _ Q0.out.src).mono ?_
        rintro e x1 ⟨rq, hrq, rfl, hs, he⟩
        have T1 := Lib.hid (Q0.out.read hs he.apart)
        have RD := Lib.hid hrq
        have L2 := Lib.hid (show w3.drew.heap.size ≤ x1.heap.size from he.apart.size)
        refine hK.out _ _ (ajs_of T1.out) (fun hHeld1 => ?_)
        clear hK K hHeld0 hs he hrq
        try simp only [Act.put, List.getElem_toArray, List.getElem_cons_zero, List.getElem_cons_succ, List.setIfInBounds_toArray, List.set_cons_zero, List.set_cons_succ]
        refine wpAnyK_two (i := 3) (j := 7) rfl rfl (by kernel_rfl) (fun K hK => ?_) (fun K hK => ?_)
        · go_simp
          with_reducible refine ((rraise_ok ax nx capx zx px jx GX.out.1 rq RD.out.1 (by have := RD.out.2; omega) _ T1.out.x.row).mono fun _ _ h => h.y).mono ?_
          rintro e x2 ⟨av, nv, capv, zv, pv, jv, cv, rfl, hb, hr, hm, hc, hx⟩
          have T2 := Lib.hid (T1.out.call hb)
          have RX := Lib.hid hr
          have HRV := Lib.hid (show Raised zx px jx zv pv cv jv from ⟨rq, hm⟩)
          have XX := Lib.hid (show ∀ y, av = some y → x1.heap.size ≤ y.block from hx)
          have L3 := Lib.hid (show x1.heap.size ≤ x2.heap.size from hb.size)
          refine hK.out _ _ (ajs_of T2.out) (fun hHeld2 => ?_)
          clear hK K hHeld1 hb hr hm hc hx
          try simp only [Act.put, List.getElem_toArray, List.getElem_cons_zero, List.getElem_cons_succ, List.setIfInBounds_toArray, List.set_cons_zero, List.set_cons_succ]
          refine wpAnyK_take (i := 4) (v := ?_) rfl (by kernel_rfl) (fun _ _ _ h => h) (Or.inl ⟨by rfl, ?_⟩) (by assumption) ?_
          rotate_left
          · (intro w hSw; (try dsimp only at hSw); go_simp; try with_reducible rfl)
          try simp only [Act.put, List.getElem_toArray, List.getElem_cons_zero, List.getElem_cons_succ, List.setIfInBounds_toArray, List.set_cons_zero, List.set_cons_succ]
          refine wpAnyK_take (i := 5) (v := ?_) rfl (by kernel_rfl) (fun _ _ _ h => h) (Or.inl ⟨by rfl, ?_⟩) (by assumption) ?_
          rotate_left
          · (intro w hSw; (try dsimp only at hSw); go_simp; try with_reducible rfl)
          try simp only [Act.put, List.getElem_toArray, List.getElem_cons_zero, List.getElem_cons_succ, List.setIfInBounds_toArray, List.set_cons_zero, List.set_cons_succ]
          refine wpAnyK_take (i := 6) (v := ?_) rfl (by kernel_rfl) (fun _ _ _ h => h) (Or.inl ⟨by rfl, ?_⟩) (by assumption) ?_
          rotate_left
          · (intro w hSw; (try dsimp only at hSw); go_simp; try with_reducible rfl)
          try simp only [Act.put, List.getElem_toArray, List.getElem_cons_zero, List.getElem_cons_succ, List.setIfInBounds_toArray, List.set_cons_zero, List.set_cons_succ]
          refine wpAnyK_step (i := 7) rfl (by kernel_rfl) (fun K hK => ?_)
          go_simp
          obtain ⟨x3, hux3⟩ : ∃ W', x2.alloc (.cells #[.slice none 0 0, .int .i64 0, .int .i64 0] 24) = W' := ⟨_, rfl⟩
          have hvx3 := hux3
          have hbx3 : Below x2.heap.size x2 x3 := by rw [← hux3]; exact below_box _
          have NB := Lib.hid (show Cur3 x3 x2.heap.size (.slice none 0 0) (.int .i64 0) (.int .i64 0) by rw [← hux3]; exact Cur3.new x2 _ _ _ _)
          have T3 := Lib.hid (T2.out.call hbx3)
          have RXb := Lib.hid (RX.out.under hbx3)
          have LE := Lib.hid (show w3.heap.size ≤ x2.heap.size ∧ x2.heap.size < x3.heap.size from ⟨Nat.le_trans L2.out L3.out, by rw [← hux3]; simp⟩)
          rw [hvx3]
          clear hux3 hvx3
          refine hK.out _ _ (ajs_of T3.out) (fun hHeld3 => ?_)
          clear hK K hHeld2 hbx3
          try simp only [Act.put, List.getElem_toArray, List.getElem_cons_zero, List.getElem_cons_succ, List.setIfInBounds_toArray, List.set_cons_zero, List.set_cons_succ]
          have h7 : w3.drew.heap.size = w3.heap.size := rfl
          have lf := Q0.out.f.box.lt
          have lg := Q0.out.g.box.lt
          have lh := Q0.out.h.box.lt
          have lx := Q0.out.x.box.lt
          have le1 := LE.out.1
          have le2 := LE.out.2
          have lb := Q0.out.bs
          have qx : ∀ y, av = some y → 1 ≤ nv → y.block ≠ x2.heap.size := fun y hy hn => by have := RX.out.far y hy hn; omega
          have HQN := Lib.hid (show (∀ y, av = some y → ¬ y.block = H ∧ ¬ y.block = W.heap.size) ∧ W.heap.size < x2.heap.size from ⟨fun y hy => by have := XX.out y hy; have := L2.out; omega, by omega⟩)
          have HPJ := Lib.hid (show AJ W W.heap.size F G H X af nf capf zf pf jf ag ng capg zg pg jg ax nx capx zx px jx ax nx capx zx px jx ra rn rc (((x3.setCell ⟨x2.heap.size, 0, none⟩ (.slice av nv capv)).setCell ⟨x2.heap.size, 1, none⟩ (.int .i64 pv)).setCell ⟨x2.heap.size, 2, none⟩ (.int .i64 jv)) from T3.out.oth (B := x2.heap.size) (by omega) ⟨fun y hy hn => by have := T3.out.f.row.far; have := QF.out.1 y hy hn; omega, fun y hy hn => by have := QF.out.2.1 y hy hn; omega, fun y hy hn => by have := QF.out.2.2.1 y hy hn; omega, fun y hy hn => by have := QF.out.2.2.2 y hy hn; omega⟩ _ _ _)
          have HX8 := Lib.hid (show BxI (((x3.setCell ⟨x2.heap.size, 0, none⟩ (.slice av nv capv)).setCell ⟨x2.heap.size, 1, none⟩ (.int .i64 pv)).setCell ⟨x2.heap.size, 2, none⟩ (.int .i64 jv)) x2.heap.size av nv capv pv jv zv from ⟨NB.out.set _ _ _, ((RXb.out.store qx _ _).store qx _ _).store qx _ _⟩)
          obtain ⟨n0, n1, n2, n3, n4, n5⟩ := NB.out
          clear qx le1 le2 lf lg lh lx lb h7
          refine wpAnyK_step (i := 8) rfl (by kernel_rfl) (fun K hK => ?_)
          go_simp
          refine hK.out _ _ (ajs_of HPJ.out) (fun hHeld9 => ?_)
          clear hK K hHeld3
          try simp only [Act.put, List.getElem_toArray, List.getElem_cons_zero, List.getElem_cons_succ, List.setIfInBounds_toArray, List.set_cons_zero, List.set_cons_succ]
          refine wpAnyK_done (by kernel_rfl) ?_
          simp only [List.drop_succ_cons, List.drop_zero]
          clear hHeld9
          go_wp2_with fail
          go_meet
          exact ⟨x2.heap.size, av, nv, capv, zv, pv, jv, cv, rfl, rfl, HQN, HX8, HRV, HPJ⟩
        · go_simp
          obtain ⟨x2, hux2⟩ : ∃ W', x1.alloc (.cells #[.slice none 0 0, .int .i64 0, .int .i64 0] 24) = W' := ⟨_, rfl⟩
          have hvx2 := hux2
          have hbx2 : Below x1.heap.size x1 x2 := by rw [← hux2]; exact below_box _
          have NB := Lib.hid (show Cur3 x2 x1.heap.size (.slice none 0 0) (.int .i64 0) (.int .i64 0) by rw [← hux2]; exact Cur3.new x1 _ _ _ _)
          have T2 := Lib.hid (T1.out.call hbx2)
          have LE := Lib.hid (show w3.heap.size ≤ x1.heap.size ∧ x1.heap.size < x2.heap.size from ⟨L2.out, by rw [← hux2]; simp⟩)
          rw [hvx2]
          clear hux2 hvx2
          refine hK.out _ _ (ajs_of T2.out) (fun hHeld2 => ?_)
          clear hK K hHeld1 hbx2
          try simp only [Act.put, List.getElem_toArray, List.getElem_cons_zero, List.getElem_cons_succ, List.setIfInBounds_toArray, List.set_cons_zero, List.set_cons_succ]
          refine wpAnyK_step (i := 3) rfl (by kernel_rfl) (fun K hK => ?_)
          go_simp
          with_reducible refine ((rraise_ok ax nx capx zx px jx GX.out.1 rq RD.out.1 (by have := RD.out.2; omega) _ T2.out.x.row).mono fun _ _ h => h.y).mono ?_
          rintro e x3 ⟨av, nv, capv, zv, pv, jv, cv, rfl, hb, hr, hm, hc, hx⟩
          have T3 := Lib.hid (T2.out.call hb)
          have RX := Lib.hid hr
          have HRV := Lib.hid (show Raised zx px jx zv pv cv jv from ⟨rq, hm⟩)
          have XX := Lib.hid (show ∀ y, av = some y → x2.heap.size ≤ y.block from hx)
          have L3 := Lib.hid (show x2.heap.size ≤ x3.heap.size from hb.size)
          have NBs := Lib.hid (NB.out.below hb)
          refine hK.out _ _ (ajs_of T3.out) (fun hHeld3 => ?_)
          clear hK K hHeld2 hb hr hm hc hx
          try simp only [Act.put, List.getElem_toArray, List.getElem_cons_zero, List.getElem_cons_succ, List.setIfInBounds_toArray, List.set_cons_zero, List.set_cons_succ]
          refine wpAnyK_take (i := 4) (v := ?_) rfl (by kernel_rfl) (fun _ _ _ h => h) (Or.inl ⟨by rfl, ?_⟩) (by assumption) ?_
          rotate_left
          · (intro w hSw; (try dsimp only at hSw); go_simp; try with_reducible rfl)
          try simp only [Act.put, List.getElem_toArray, List.getElem_cons_zero, List.getElem_cons_succ, List.setIfInBounds_toArray, List.set_cons_zero, List.set_cons_succ]
          refine wpAnyK_take (i := 5) (v := ?_) rfl (by kernel_rfl) (fun _ _ _ h => h) (Or.inl ⟨by rfl, ?_⟩) (by assumption) ?_
          rotate_left
          · (intro w hSw; (try dsimp only at hSw); go_simp; try with_reducible rfl)
          try simp only [Act.put, List.getElem_toArray, List.getElem_cons_zero, List.getElem_cons_succ, List.setIfInBounds_toArray, List.set_cons_zero, List.set_cons_succ]
          refine wpAnyK_take (i := 6) (v := ?_) rfl (by kernel_rfl) (fun _ _ _ h => h) (Or.inl ⟨by rfl, ?_⟩) (by assumption) ?_
          rotate_left
          · (intro w hSw; (try dsimp only at hSw); go_simp; try with_reducible rfl)
          try simp only [Act.put, List.getElem_toArray, List.getElem_cons_zero, List.getElem_cons_succ, List.setIfInBounds_toArray, List.set_cons_zero, List.set_cons_succ]
          have h7 : w3.drew.heap.size = w3.heap.size := rfl
          have lf := Q0.out.f.box.lt
          have lg := Q0.out.g.box.lt
          have lh := Q0.out.h.box.lt
          have lx := Q0.out.x.box.lt
          have le1 := LE.out.1
          have le2 := LE.out.2
          have lb := Q0.out.bs
          have qx : ∀ y, av = some y → 1 ≤ nv → y.block ≠ x1.heap.size := fun y hy hn => by have := XX.out y hy; omega
          have HQN := Lib.hid (show (∀ y, av = some y → ¬ y.block = H ∧ ¬ y.block = W.heap.size) ∧ W.heap.size < x1.heap.size from ⟨fun y hy => by have := XX.out y hy; have := L2.out; omega, by omega⟩)
          have HPJ := Lib.hid (show AJ W W.heap.size F G H X af nf capf zf pf jf ag ng capg zg pg jg ax nx capx zx px jx ax nx capx zx px jx ra rn rc (((x3.setCell ⟨x1.heap.size, 0, none⟩ (.slice av nv capv)).setCell ⟨x1.heap.size, 1, none⟩ (.int .i64 pv)).setCell ⟨x1.heap.size, 2, none⟩ (.int .i64 jv)) from T3.out.oth (B := x1.heap.size) (by omega) ⟨fun y hy hn => by have := T3.out.f.row.far; have := QF.out.1 y hy hn; omega, fun y hy hn => by have := QF.out.2.1 y hy hn; omega, fun y hy hn => by have := QF.out.2.2.1 y hy hn; omega, fun y hy hn => by have := QF.out.2.2.2 y hy hn; omega⟩ _ _ _)
          have HX8 := Lib.hid (show BxI (((x3.setCell ⟨x1.heap.size, 0, none⟩ (.slice av nv capv)).setCell ⟨x1.heap.size, 1, none⟩ (.int .i64 pv)).setCell ⟨x1.heap.size, 2, none⟩ (.int .i64 jv)) x1.heap.size av nv capv pv jv zv from ⟨NBs.out.set _ _ _, ((RX.out.store qx _ _).store qx _ _).store qx _ _⟩)
          obtain ⟨n0, n1, n2, n3, n4, n5⟩ := NBs.out
          clear qx le1 le2 lf lg lh lx lb h7
          refine wpAnyK_step (i := 8) rfl (by kernel_rfl) (fun K hK => ?_)
          go_simp
          refine hK.out _ _ (ajs_of HPJ.out) (fun hHeld9 => ?_)
          clear hK K hHeld3
          try simp only [Act.put, List.getElem_toArray, List.getElem_cons_zero, List.getElem_cons_succ, List.setIfInBounds_toArray, List.set_cons_zero, List.set_cons_succ]
          refine wpAnyK_done (by kernel_rfl) ?_
          simp only [List.drop_succ_cons, List.drop_zero]
          clear hHeld9
          go_wp2_with fail
          go_meet
          exact ⟨x1.heap.size, av, nv, capv, zv, pv, jv, cv, rfl, rfl, HQN, HX8, HRV, HPJ⟩
      · go_simp
        obtain ⟨x1, hvx1⟩ : ∃ W', (w3.alloc (.cells #[.slice none 0 0, .int .i64 0, .int .i64 0] 24)).drew = W' := ⟨_, rfl⟩
        have hux1 : w3.drew.alloc (.cells #[.slice none 0 0, .int .i64 0, .int .i64 0] 24) = x1 := hvx1
        have hbx1 : Below w3.drew.heap.size w3.drew x1 := by rw [← hux1]; exact below_box _
        have NB := Lib.hid (show Cur3 x1 w3.heap.size (.slice none 0 0) (.int .i64 0) (.int .i64 0) by rw [← hux1]; exact Cur3.new w3.drew _ _ _ _)
        have T1 := Lib.hid (Q0.out.call hbx1)
        have LE := Lib.hid (show w3.heap.size ≤ w3.drew.heap.size ∧ w3.drew.heap.size < x1.heap.size from ⟨Nat.le_refl _, by rw [← hux1]; simp⟩)
        rw [hvx1]
        clear hux1 hvx1
        refine hK.out _ _ (ajs_of T1.out) (fun hHeld1 => ?_)
        clear hK K hHeld0 hbx1
        try simp only [Act.put, List.getElem_toArray, List.getElem_cons_zero, List.getElem_cons_succ, List.setIfInBounds_toArray, List.set_cons_zero, List.set_cons_succ]
        refine wpAnyK_step (i := 2) rfl (by kernel_rfl) (fun K hK => ?_)
        go_simp
        refine (n_any 3 (by omega) (by omega) _ ra rn rc _ T1.out.src).mono ?_
        rintro e x2 ⟨rq, hrq, rfl, hs, he⟩
        have T2 := Lib.hid (T1.out.read hs he.apart)
        have RD := Lib.hid hrq
        have L2 := Lib.hid (show x1.heap.size ≤ x2.heap.size from he.apart.size)
        have NBr := Lib.hid (NB.out.apart he.apart (by have := LE.out.1; have := Q0.out.f.box.lt; have := Q0.out.bs; show _ ≠ _; have h7 : w3.drew.heap.size = w3.heap.size := rfl; omega))
        refine hK.out _ _ (ajs_of T2.out) (fun hHeld2 => ?_)
        clear hK K hHeld1 hs he hrq
        try simp only [Act.put, List.getElem_toArray, List.getElem_cons_zero, List.getElem_cons_succ, List.setIfInBounds_toArray, List.set_cons_zero, List.set_cons_succ]
        refine wpAnyK_step (i := 3) rfl (by kernel_rfl) (fun K hK => ?_)
        go_simp
        with_reducible refine ((rraise_ok ax nx capx zx px jx GX.out.1 rq RD.out.1 (by have := RD.out.2; omega) _ T2.out.x.row).mono fun _ _ h => h.y).mono ?_
        rintro e x3 ⟨av, nv, capv, zv, pv, jv, cv, rfl, hb, hr, hm, hc, hx⟩
        have T3 := Lib.hid (T2.out.call hb)
        have RX := Lib.hid hr
        have HRV := Lib.hid (show Raised zx px jx zv pv cv jv from ⟨rq, hm⟩)
        have XX := Lib.hid (show ∀ y, av = some y → x2.heap.size ≤ y.block from hx)
        have L3 := Lib.hid (show x2.heap.size ≤ x3.heap.size from hb.size)
        have NBrs := Lib.hid (NBr.out.below hb)
        refine hK.out _ _ (ajs_of T3.out) (fun hHeld3 => ?_)
        clear hK K hHeld2 hb hr hm hc hx
        try simp only [Act.put, List.getElem_toArray, List.getElem_cons_zero, List.getElem_cons_succ, List.setIfInBounds_toArray, List.set_cons_zero, List.set_cons_succ]
        refine wpAnyK_take (i := 4) (v := ?_) rfl (by kernel_rfl) (fun _ _ _ h => h) (Or.inl ⟨by rfl, ?_⟩) (by assumption) ?_
        rotate_left
        · (intro w hSw; (try dsimp only at hSw); go_simp; try with_reducible rfl)
        try simp only [Act.put, List.getElem_toArray, List.getElem_cons_zero, List.getElem_cons_succ, List.setIfInBounds_toArray, List.set_cons_zero, List.set_cons_succ]
        refine wpAnyK_take (i := 5) (v := ?_) rfl (by kernel_rfl) (fun _ _ _ h => h) (Or.inl ⟨by rfl, ?_⟩) (by assumption) ?_
        rotate_left
        · (intro w hSw; (try dsimp only at hSw); go_simp; try with_reducible rfl)
        try simp only [Act.put, List.getElem_toArray, List.getElem_cons_zero, List.getElem_cons_succ, List.setIfInBounds_toArray, List.set_cons_zero, List.set_cons_succ]
        refine wpAnyK_take (i := 6) (v := ?_) rfl (by kernel_rfl) (fun _ _ _ h => h) (Or.inl ⟨by rfl, ?_⟩) (by assumption) ?_
        rotate_left
        · (intro w hSw; (try dsimp only at hSw); go_simp; try with_reducible rfl)
        try simp only [Act.put, List.getElem_toArray, List.getElem_cons_zero, List.getElem_cons_succ, List.setIfInBounds_toArray, List.set_cons_zero, List.set_cons_succ]
        have h7 : w3.drew.heap.size = w3.heap.size := rfl
        have lf := Q0.out.f.box.lt
        have lg := Q0.out.g.box.lt
        have lh := Q0.out.h.box.lt
        have lx := Q0.out.x.box.lt
        have le1 := LE.out.1
        have le2 := LE.out.2
        have lb := Q0.out.bs
        have qx : ∀ y, av = some y → 1 ≤ nv → y.block ≠ w3.heap.size := fun y hy hn => by have := XX.out y hy; have := L2.out; omega
        have HQN := Lib.hid (show (∀ y, av = some y → ¬ y.block = H ∧ ¬ y.block = W.heap.size) ∧ W.heap.size < w3.heap.size from ⟨fun y hy => by have := XX.out y hy; have := L2.out; omega, by omega⟩)
        have HPJ := Lib.hid (show AJ W W.heap.size F G H X af nf capf zf pf jf ag ng capg zg pg jg ax nx capx zx px jx ax nx capx zx px jx ra rn rc (((x3.setCell ⟨w3.heap.size, 0, none⟩ (.slice av nv capv)).setCell ⟨w3.heap.size, 1, none⟩ (.int .i64 pv)).setCell ⟨w3.heap.size, 2, none⟩ (.int .i64 jv)) from T3.out.oth (B := w3.heap.size) (by omega) ⟨fun y hy hn => by have := T3.out.f.row.far; have := QF.out.1 y hy hn; omega, fun y hy hn => by have := QF.out.2.1 y hy hn; omega, fun y hy hn => by have := QF.out.2.2.1 y hy hn; omega, fun y hy hn => by have := QF.out.2.2.2 y hy hn; omega⟩ _ _ _)
        have HX8 := Lib.hid (show BxI (((x3.setCell ⟨w3.heap.size, 0, none⟩ (.slice av nv capv)).setCell ⟨w3.heap.size, 1, none⟩ (.int .i64 pv)).setCell ⟨w3.heap.size, 2, none⟩ (.int .i64 jv)) w3.heap.size av nv capv pv jv zv from ⟨NBrs.out.set _ _ _, ((RX.out.store qx _ _).store qx _ _).store qx _ _⟩)
        obtain ⟨n0, n1, n2, n3, n4, n5⟩ := NBrs.out
        clear qx le1 le2 lf lg lh lx lb h7
        refine wpAnyK_step (i := 8) rfl (by kernel_rfl) (fun K hK => ?_)
        go_simp
        refine hK.out _ _ (ajs_of HPJ.out) (fun hHeld9 => ?_)
        clear hK K hHeld3
        try simp only [Act.put, List.getElem_toArray, List.getElem_cons_zero, List.getElem_cons_succ, List.setIfInBounds_toArray, List.set_cons_zero, List.set_cons_succ]
        refine wpAnyK_done (by kernel_rfl) ?_
        simp only [List.drop_succ_cons, List.drop_zero]
        clear hHeld9
        go_wp2_with fail
        go_meet
        exact ⟨w3.heap.size, av, nv, capv, zv, pv, jv, cv, rfl, rfl, HQN, HX8, HRV, HPJ⟩
    case rest =>
    obtain ⟨V, av, nv, capv, zv, pv, jv, c, rfl, rfl, HNV, XV, HRV, J4⟩ := hcut
    obtain ⟨w4, rfl⟩ : ∃ u : World, u = wc := ⟨_, rfl⟩
    clear Q0
    by_cases hc : c = 0
    rotate_left
    · have k1 : (c == 0) = false := by simpa using hc
      clear hc
      go_wp2_with fail
      go_meet
      exact ⟨ax, nx, capx, zx, px, jx, GX, J4⟩
    subst hc
    go_upto_region 9 with fail
    go_wp2_with fail
    refine (n_any 2 (by omega) (by omega) _ ra rn rc _ J4.out.src).mono ?_
    rintro e w5 ⟨r5, hr5, rfl, hs, he⟩
    have J5 := Lib.hid (J4.out.read hs he.apart)
    have hVb : ¬ V = W.heap.size := by have := HNV.out.2; omega
    have XV5 := Lib.hid (And.intro (XV.out.box.apart he.apart hVb) (XV.out.row.apart he.apart (fun y hy => (HNV.out.1 y hy).2)))
    clear hs he hr5 hVb
    by_cases hq : r5 = 0
    rotate_left
    · have k2 : (r5 == 0) = false := by simpa using hq
      clear hq
      go_wp2_with fail
      go_meet
      exact ⟨ax, nx, capx, zx, px, jx, GX, J5⟩
    have k2 : (r5 == 0) = true := by simpa using hq
    clear hq
    obtain ⟨ci, hmy⟩ := HRV.out
    obtain ⟨qv, hqv, hfv⟩ := my_form1 hmy
    have GV := Lib.hid (show Good zv qv jv ∧ Day (eC zv qv jv) from ⟨hfv.good, (OX.out.2.raise ci).of hfv.val⟩)
    subst hqv
    have J6 := Lib.hid (J5.out.lay (py := qv) (jy := jv) XV5.out.2 (fun y hy _ => (HNV.out.1 y hy).1) (fun y hy => (HNV.out.1 y hy).2))
    obtain ⟨c0, c1, c2, c3, c4, c5⟩ := XV5.out.1
    obtain ⟨d0, d1, d2, d3, d4, d5⟩ := J5.out.h.box
    clear hmy hfv
    go_wp2_with fail
    go_meet
    exact ⟨av, nv, capv, zv, qv, jv, GV, J6⟩
  case rest =>
  clear J2 OH
  obtain ⟨ah, nh, caph, zh, ph, jh, OH, J7⟩ := hcut
  obtain ⟨w7, rfl⟩ : ∃ u : World, u = wc := ⟨_, rfl⟩
  obtain ⟨c0, c1, c2, c3, c4, c5⟩ := J7.out.h.box
  obtain ⟨d0, d1, d2, d3, d4, d5⟩ := J7.out.g.box
  go_wp2_with fail
  clear c0 c1 c2 c3 c4 c5 d0 d1 d2 d3 d4 d5
  with_reducible refine (cof_day ah nh caph zh ph jh OH.out.1 ag ng capg zg pg jg OG.out.1 OH.out.2 OG.out.2.1 _ J7.out.h.row J7.out.g.row).mono ?_
  rintro e v8 ⟨hb, ⟨ay, ny, capy, zy, py, jy, rfl, hr, hf, hx⟩ | ⟨rfl, hno⟩⟩
  rotate_left
  · have HBQ := Lib.hid (J7.out.below.trans ((hb.trans ((below_box (.cells #[.slice none 0 0, .int .i64 0, .int .i64 0] 24)).mono hb.size)).mono J7.out.below.size))
    clear hb hno
    go_wp2_with fail
    refine (awake8 _).mono ?_
    rintro e y9 ⟨rfl, hb⟩
    have HBZ := Lib.hid (HBQ.out.trans (hb.mono HBQ.out.size))
    clear hb
    go_wp2_with fail
    go_ret
    exact ⟨rfl, HBZ.out⟩
  obtain ⟨w8, hw⟩ : ∃ w', v8.alloc (.cells #[.slice ay ny capy, .int .i64 py, .int .i64 jy] 24) = w' := ⟨_, rfl⟩
  have hz : Below w7.heap.size w7 w8 := by rw [← hw]; exact hb.trans ((below_box _).mono hb.size)
  have K1 := Lib.hid (show AE W F H X v8.heap.size af nf capf zf pf jf ah nh caph zh ph jh ax nx capx zx px jx ay ny capy zy py jy w8.drew from AE.call (u := w8) ⟨J7.out.f.under hz, J7.out.h.under hz, J7.out.x.under hz, by rw [← hw]; exact Bx.new hr, J7.out.below.trans (hz.mono J7.out.below.size)⟩ (Below.refl _ _).drew)
  obtain ⟨bb, hbb⟩ : ∃ b : Bool, (b = true ↔ ∀ t, ole (eC zx px jx t) (eC zh ph jh t)) := by
    by_cases h : ∀ t, ole (eC zx px jx t) (eC zh ph jh t)
    · exact ⟨true, ⟨fun _ => h, fun _ => rfl⟩⟩
    · exact ⟨false, ⟨fun q => (by cases q), fun k => absurd k h⟩⟩
  have HB1 := Lib.hid hbb
  have HB2 := Lib.hid (show bb = true ↔ ∀ t, ole (eC zf pf jf t) (eC zy py jy t) by
    rw [hbb]
    have e1 : (∀ t, ole (eC zx px jx t) (eC zh ph jh t)) ↔ ∀ t, ole (oDec (eC zf pf jf) (eC zg pg jg) t) (eC zh ph jh t) := by
      have := OX.out.1.val
      constructor
      · intro h t; have := h t; rw [OX.out.1.val] at this; exact this
      · intro h t; rw [OX.out.1.val]; exact h t
    have e2 : (∀ t, ole (eC zf pf jf t) (eC zy py jy t)) ↔ ∀ t, ole (eC zf pf jf t) (oconv (eC zh ph jh) (eC zg pg jg) t) := by
      constructor
      · intro h t; have := h t; rw [hf.val] at this; exact this
      · intro h t; rw [hf.val]; exact h t
    rw [e1, e2]
    exact dec_adj (eC_zero0 OG.out.1 OG.out.2.2))
  have GY := Lib.hid hf.good
  have GXX := Lib.hid OX.out.1.good
  have HW8 := Lib.hid hw
  obtain ⟨Y, hY⟩ : ∃ Y, v8.heap.size = Y := ⟨_, rfl⟩
  have HYE := Lib.hid hY
  rw [hY] at K1
  clear hb hr hf hx hz hw hbb hY J7
  go_upto_region 12 with fail
  try rw [HW8.out]
  try rw [HYE.out]
  go_upto_region 14 with fail
  refine wp_region_keeps (fun u => AES W F H X Y af nf capf zf pf jf ah nh caph zh ph jh ax nx capx zx px jx ay ny capy zy py jy u) 9 2 (by kernel_rfl) (by kernel_rfl) (aes_of K1.out) (fun hHeld0 => ?_)
  refine wpAnyK_take (i := 0) (v := ?_) rfl (by kernel_rfl) (fun _ _ _ h => h) (Or.inl ⟨by rfl, ?_⟩) (by assumption) ?_
  rotate_left
  · (intro w hSw; (try dsimp only at hSw); go_simp; try with_reducible rfl)
  try simp only [Act.put, List.getElem_toArray, List.getElem_cons_zero, List.getElem_cons_succ, List.setIfInBounds_toArray, List.set_cons_zero, List.set_cons_succ]
  refine wpAnyK_take (i := 1) (v := ?_) rfl (by kernel_rfl) (fun _ _ _ h => h) (Or.inl ⟨by rfl, ?_⟩) (by assumption) ?_
  rotate_left
  · (intro w hSw; (try dsimp only at hSw); go_simp; try with_reducible rfl)
  try simp only [Act.put, List.getElem_toArray, List.getElem_cons_zero, List.getElem_cons_succ, List.setIfInBounds_toArray, List.set_cons_zero, List.set_cons_succ]
  refine wpAnyK_take (i := 3) (v := ?_) rfl (by kernel_rfl) (fun _ _ _ h => h) (Or.inl ⟨by rfl, ?_⟩) (by assumption) ?_
  rotate_left
  · (intro w hSw; (try dsimp only at hSw); go_simp; try with_reducible rfl)
  try simp only [Act.put, List.getElem_toArray, List.getElem_cons_zero, List.getElem_cons_succ, List.setIfInBounds_toArray, List.set_cons_zero, List.set_cons_succ]
  refine wpAnyK_take (i := 4) (v := ?_) rfl (by kernel_rfl) (fun _ _ _ h => h) (Or.inl ⟨by rfl, ?_⟩) (by assumption) ?_
  rotate_left
  · (intro w hSw; (try dsimp only at hSw); go_simp; try with_reducible rfl)
  try simp only [Act.put, List.getElem_toArray, List.getElem_cons_zero, List.getElem_cons_succ, List.setIfInBounds_toArray, List.set_cons_zero, List.set_cons_succ]
  refine wpAnyK_step (i := 2) rfl (by kernel_rfl) (fun K hK => ?_)
  go_simp
  with_reducible refine (ratMost_says ax nx capx zx px jx GXX.out ah nh caph zh ph jh OH.out.1 bb HB1.out _ K1.out.x.row K1.out.h.row).mono ?_
  rintro e y1 ⟨rfl, hb⟩
  have K2 := Lib.hid (K1.out.call hb)
  clear hb
  refine hK.out _ _ (aes_of K2.out) (fun hHeld1 => ?_)
  clear hK K hHeld0
  try simp only [Act.put, List.getElem_toArray, List.getElem_cons_zero, List.getElem_cons_succ, List.setIfInBounds_toArray, List.set_cons_zero, List.set_cons_succ]
  refine wpAnyK_step (i := 5) rfl (by kernel_rfl) (fun K hK => ?_)
  go_simp
  with_reducible refine (ratMost_says af nf capf zf pf jf OF.out.1 ay ny capy zy py jy GY.out bb HB2.out _ K2.out.f.row K2.out.y.row).mono ?_
  rintro e y2 ⟨rfl, hb⟩
  have K3 := Lib.hid (K2.out.call hb)
  clear hb
  refine hK.out _ _ (aes_of K3.out) (fun hHeld2 => ?_)
  clear hK K hHeld1
  try simp only [Act.put, List.getElem_toArray, List.getElem_cons_zero, List.getElem_cons_succ, List.setIfInBounds_toArray, List.set_cons_zero, List.set_cons_succ]
  refine wpAnyK_take (i := 6) (v := ?_) rfl (by kernel_rfl) (fun _ _ _ h => h) (Or.inl ⟨by rfl, ?_⟩) (by assumption) ?_
  rotate_left
  · (intro w hSw; (try dsimp only at hSw); go_simp; try with_reducible rfl)
  try simp only [Act.put, List.getElem_toArray, List.getElem_cons_zero, List.getElem_cons_succ, List.setIfInBounds_toArray, List.set_cons_zero, List.set_cons_succ]
  refine wpAnyK_take (i := 7) (v := ?_) rfl (by kernel_rfl) (fun _ _ _ h => h) (Or.inl ⟨by rfl, ?_⟩) (by assumption) ?_
  rotate_left
  · (intro w hSw; (try dsimp only at hSw); go_simp; try with_reducible rfl)
  try simp only [Act.put, List.getElem_toArray, List.getElem_cons_zero, List.getElem_cons_succ, List.setIfInBounds_toArray, List.set_cons_zero, List.set_cons_succ]
  refine wpAnyK_step (i := 8) rfl (by kernel_rfl) (fun K hK => ?_)
  go_simp
  with_reducible refine (awake8 _).mono ?_
  rintro e y3 ⟨rfl, hb⟩
  have K4 := Lib.hid (K3.out.call hb)
  clear hb
  refine hK.out _ _ (aes_of K4.out) (fun hHeld3 => ?_)
  clear hK K hHeld2
  try simp only [Act.put, List.getElem_toArray, List.getElem_cons_zero, List.getElem_cons_succ, List.setIfInBounds_toArray, List.set_cons_zero, List.set_cons_succ]
  refine wpAnyK_done (by kernel_rfl) ?_
  simp only [List.drop_succ_cons, List.drop_zero]
  clear hHeld3
  go_wp2_with fail
  go_ret
  exact ⟨by simp, K4.out.below⟩
end Go.Proofs.Ytcbocglakielnaa
