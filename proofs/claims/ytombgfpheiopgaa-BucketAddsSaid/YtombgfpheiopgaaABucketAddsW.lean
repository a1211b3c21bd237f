/- The walk of BucketAdds. By the verifier's side. -/
import Derived.Test.YtombgfpheiopgaaABkQ
import Derived.Deep.RegionWith
namespace Go.Proofs.Ytombgfpheiopgaa
open Go.RowKit
set_option linter.unusedSimpArgs false
set_option linter.unusedVariables false

/-- A bucket in a block, of which the burst may be written. -/
structure Bk6 (w : World) (p : Nat) (bn bd rn rd : Int) : Prop where
  b : Bk4 w p bn bd rn rd
  f0 : w.frozen? ⟨p, 0, none⟩ = false
  f1 : w.frozen? ⟨p, 1, none⟩ = false
section
variable {w w' : World} {p b : Nat} {bn bd rn rd : Int}
theorem Bk6.lt (h : Bk6 w p bn bd rn rd) : p < w.heap.size := h.b.lt
theorem Bk6.below (h : Bk6 w p bn bd rn rd) (hb : Below w.heap.size w w') : Bk6 w' p bn bd rn rd :=
  ⟨h.b.below hb, (hb.frozen (p := ⟨p, 0, none⟩) h.lt).trans h.f0, (hb.frozen (p := ⟨p, 1, none⟩) h.lt).trans h.f1⟩
theorem Bk6.apart (h : Bk6 w p bn bd rn rd) (ha : Apart b w w') (hp : p ≠ b) : Bk6 w' p bn bd rn rd := by
  obtain ⟨_, h2⟩ := acell ha
  exact ⟨h.b.apart ha hp, (h2 p 0 h.lt hp).trans h.f0, (h2 p 1 h.lt hp).trans h.f1⟩
theorem Bk6.new (w : World) (bn bd rn rd : Int) (t : TypeId) : Bk6 (w.alloc (.cells #[.int .i64 bn, .int .i64 bd, .int .i64 rn, .int .i64 rd] t)) w.heap.size bn bd rn rd :=
  ⟨Bk4.new _ _ _ _ _ _, by go_simp, by go_simp⟩
theorem Bk6.set (h : Bk6 w p bn bd rn rd) (x y : Int) : Bk6 ((w.setCell ⟨p, 0, none⟩ (.int .i64 x)).setCell ⟨p, 1, none⟩ (.int .i64 y)) p x y rn rd := by
  obtain ⟨⟨c0, c1, c2, c3⟩, f0, f1⟩ := h
  exact ⟨⟨by go_simp, by go_simp, by go_simp, by go_simp⟩, by go_simp, by go_simp⟩
theorem Bx.store {u : World} {F : Nat} {a : Option Addr} {n cap p : Nat} {inc : Int} {zs : List Int} (h : Bx u F a n cap p inc zs) {q : Nat} (hF : F ≠ q) (hx : ∀ x, a = some x → 1 ≤ n → x.block ≠ q) (i : Nat) (v : Value) : Bx (u.setCell ⟨q, i, none⟩ v) F a n cap p inc zs :=
  ⟨h.box.other hF _ _, h.row.store hx _ _⟩
end

/-- What stands when the deep bucket is made: the two buckets, three curves, the deep bucket, the reader. -/
structure AD (u1 : World) (b : Nat) (ra : Option Addr) (rn rc : Nat) (BA : Nat) (bn bd qn qd : Int) (BC : Nat) (cn cd sn sd : Int) (Bf : Nat) (af : Option Addr) (nf capf pf : Nat) (jf : Int) (zf : List Int) (Bg : Nat) (ag : Option Addr) (ng capg pg : Nat) (jg : Int) (zg : List Int) (Bv : Nat) (av : Option Addr) (nv capv pv : Nat) (jv : Int) (zv : List Int) (BD : Nat) (xn xd : Int) (u : World) : Prop where
  hd : Held u1 b ra rn rc u
  a : Bk4 u BA bn bd qn qd
  c : Bk4 u BC cn cd sn sd
  f : Bx u Bf af nf capf pf jf zf
  g : Bx u Bg ag ng capg pg jg zg
  v : Bx u Bv av nv capv pv jv zv
  d : Bk6 u BD xn xd qn qd
  ne : (BA ≠ b ∧ BC ≠ b ∧ BD ≠ b) ∧ (Bf ≠ b ∧ ∀ y, af = some y → ¬ y.block = b) ∧ (Bg ≠ b ∧ ∀ y, ag = some y → ¬ y.block = b) ∧ (Bv ≠ b ∧ ∀ y, av = some y → ¬ y.block = b)
  lt : BA < BD ∧ BC < BD ∧ (Bf < BD ∧ ∀ y, af = some y → 1 ≤ nf → y.block < BD) ∧ (Bg < BD ∧ ∀ y, ag = some y → 1 ≤ ng → y.block < BD) ∧ (Bv < BD ∧ ∀ y, av = some y → 1 ≤ nv → y.block < BD)
  up : u1.heap.size ≤ BD ∧ b < u1.heap.size
section
variable {u1 u v : World} {b : Nat} {ra : Option Addr} {rn rc BA : Nat} {bn bd qn qd : Int} {BC : Nat} {cn cd sn sd : Int} {Bf : Nat} {af : Option Addr} {nf capf pf : Nat} {jf : Int} {zf : List Int} {Bg : Nat} {ag : Option Addr} {ng capg pg : Nat} {jg : Int} {zg : List Int} {Bv : Nat} {av : Option Addr} {nv capv pv : Nat} {jv : Int} {zv : List Int} {BD : Nat} {xn xd : Int}
theorem AD.call (h : (AD u1 b ra rn rc BA bn bd qn qd BC cn cd sn sd Bf af nf capf pf jf zf Bg ag ng capg pg jg zg Bv av nv capv pv jv zv BD xn xd u)) (hb : Below u.heap.size u v) : (AD u1 b ra rn rc BA bn bd qn qd BC cn cd sn sd Bf af nf capf pf jf zf Bg ag ng capg pg jg zg Bv av nv capv pv jv zv BD xn xd v) :=
  ⟨h.hd.below hb, h.a.below hb, h.c.below hb, h.f.under hb, h.g.under hb, h.v.under hb, h.d.below hb, h.ne, h.lt, h.up⟩
theorem AD.read (h : (AD u1 b ra rn rc BA bn bd qn qd BC cn cd sn sd Bf af nf capf pf jf zf Bg ag ng capg pg jg zg Bv av nv capv pv jv zv BD xn xd u)) (hs : SrcAt v b ra rn rc) (ha : Apart b u v) : (AD u1 b ra rn rc BA bn bd qn qd BC cn cd sn sd Bf af nf capf pf jf zf Bg ag ng capg pg jg zg Bv av nv capv pv jv zv BD xn xd v) :=
  ⟨h.hd.call hs ha, h.a.apart ha h.ne.1.1, h.c.apart ha h.ne.1.2.1, ⟨h.f.box.apart ha h.ne.2.1.1, h.f.row.apart ha h.ne.2.1.2⟩, ⟨h.g.box.apart ha h.ne.2.2.1.1, h.g.row.apart ha h.ne.2.2.1.2⟩, ⟨h.v.box.apart ha h.ne.2.2.2.1, h.v.row.apart ha h.ne.2.2.2.2⟩, h.d.apart ha h.ne.1.2.2, h.ne, h.lt, h.up⟩
theorem AD.one (h : (AD u1 b ra rn rc BA bn bd qn qd BC cn cd sn sd Bf af nf capf pf jf zf Bg ag ng capg pg jg zg Bv av nv capv pv jv zv BD xn xd u)) (i : Nat) (x : Value) : Held u1 b ra rn rc (u.setCell ⟨BD, i, none⟩ x) ∧ Bk4 (u.setCell ⟨BD, i, none⟩ x) BA bn bd qn qd ∧ Bk4 (u.setCell ⟨BD, i, none⟩ x) BC cn cd sn sd ∧ Bx (u.setCell ⟨BD, i, none⟩ x) Bf af nf capf pf jf zf ∧ Bx (u.setCell ⟨BD, i, none⟩ x) Bg ag ng capg pg jg zg ∧ Bx (u.setCell ⟨BD, i, none⟩ x) Bv av nv capv pv jv zv := by
  obtain ⟨l1, l2, l3, l4, l5⟩ := h.lt
  refine ⟨h.hd.set h.up.2 (p := ⟨BD, i, none⟩) h.up.1 x, h.a.other (by omega) _ _, h.c.other (by omega) _ _, h.f.store (by omega) (fun y e1 e2 => by have := l3.2 y e1 e2; omega) _ _, h.g.store (by omega) (fun y e1 e2 => by have := l4.2 y e1 e2; omega) _ _, h.v.store (by omega) (fun y e1 e2 => by have := l5.2 y e1 e2; omega) _ _⟩
theorem AD.put (h : (AD u1 b ra rn rc BA bn bd qn qd BC cn cd sn sd Bf af nf capf pf jf zf Bg ag ng capg pg jg zg Bv av nv capv pv jv zv BD xn xd u)) (x y : Int) : (AD u1 b ra rn rc BA bn bd qn qd BC cn cd sn sd Bf af nf capf pf jf zf Bg ag ng capg pg jg zg Bv av nv capv pv jv zv BD x y ((u.setCell ⟨BD, 0, none⟩ (.int .i64 x)).setCell ⟨BD, 1, none⟩ (.int .i64 y))) := by
  obtain ⟨l1, l2, l3, l4, l5⟩ := h.lt
  obtain ⟨h1, h2, h3, h4, h5, h6⟩ := h.one 0 (.int .i64 x)
  exact ⟨h1.set h.up.2 (p := ⟨BD, 1, none⟩) h.up.1 _, h2.other (by omega) _ _, h3.other (by omega) _ _, h4.store (by omega) (fun y e1 e2 => by have := l3.2 y e1 e2; omega) _ _, h5.store (by omega) (fun y e1 e2 => by have := l4.2 y e1 e2; omega) _ _, h6.store (by omega) (fun y e1 e2 => by have := l5.2 y e1 e2; omega) _ _, h.d.set x y, h.ne, h.lt, h.up⟩
end

theorem deep_math {qn qd xn xd fn fd tn td : Nat} (h1 : (qn + qd) * xd ≤ xn * qd) (h2 : tn * (xd * fd) = (xn * fd + fn * xd) * td) (hx : 1 ≤ xd) (hf : 1 ≤ fd) : (qn + qd) * td ≤ tn * qd := by
  refine Nat.le_of_mul_le_mul_right ?_ (show 0 < xd * fd from Nat.mul_pos hx hf)
  have e1 : (qn + qd) * td * (xd * fd) = ((qn + qd) * xd) * (td * fd) := by grind
  have e2 : tn * qd * (xd * fd) = (tn * (xd * fd)) * qd := by grind
  have e3 : (xn * fd + fn * xd) * td * qd = (xn * qd) * (td * fd) + fn * xd * td * qd := by grind
  rw [e1, e2, h2, e3]
  exact Nat.le_trans (Nat.mul_le_mul_right _ h1) (Nat.le_add_right _ _)
theorem deep_step {qn qd xn xd : Nat} (OX : okB xn xd = true ∧ (qn + qd) * xd ≤ xn * qd ∧ 1 ≤ xd ∧ xd ≤ 4 ∧ xn ≤ 28) {u1 u v : World} {b : Nat} {ra : Option Addr} {rn rc BA : Nat} {bn bd : Int} {BC : Nat} {cn cd sn sd : Int} {Bf : Nat} {af : Option Addr} {nf capf pf : Nat} {jf : Int} {zf : List Int} {Bg : Nat} {ag : Option Addr} {ng capg pg : Nat} {jg : Int} {zg : List Int} {Bv : Nat} {av : Option Addr} {nv capv pv : Nat} {jv : Int} {zv : List Int} {BD : Nat}
    (h : AD u1 b ra rn rc BA bn bd qn qd BC cn cd sn sd Bf af nf capf pf jf zf Bg ag ng capg pg jg zg Bv av nv capv pv jv zv BD xn xd u) (hs : SrcAt v b ra rn rc) (ha : Apart b u v) {x y : Int} (hp : 0 ≤ x ∧ x ≤ 9 * 3 ∧ 1 ≤ y ∧ y ≤ 3 ∧ Nat.gcd x.natAbs y.natAbs = 1) :
    ∃ (_ : Hid (AD u1 b ra rn rc BA bn bd qn qd BC cn cd sn sd Bf af nf capf pf jf zf Bg ag ng capg pg jg zg Bv av nv capv pv jv zv BD xn xd v)) (fn fd : Nat) (_ : x = fn) (_ : y = fd) (_ : okB fn fd = true) (_ : 1 ≤ fd) (tn td : Nat), Hid (addF xn xd fn fd = ((tn : Int), (td : Int), 0)) ∧ Hid (okB tn td = true ∧ (qn + qd) * td ≤ tn * qd ∧ 1 ≤ td ∧ td ≤ 12 ∧ tn ≤ 1000) := by
  obtain ⟨fn, fd, rfl, rfl, f0, f1, f2, f3⟩ := frac_nat hp (by omega) (by omega)
  obtain ⟨tn, td, hadd, hto, hte, ht1, ht2, ht3⟩ := add_small OX.1 f0 (by have := OX; omega) (by have := OX; omega) (by omega) (by omega)
  exact ⟨h.read hs ha, fn, fd, rfl, rfl, f0, f2, tn, td, hadd, hto, deep_math OX.2.1 hte OX.2.2.1 f2, ht1, by
    have e1 : xd * fd ≤ 4 * 3 := Nat.mul_le_mul (by have := OX; omega) (by omega)
    omega, by
    have e1 : xn * fd ≤ 28 * 3 := Nat.mul_le_mul (by have := OX; omega) (by omega)
    have e2 : fn * xd ≤ 27 * 4 := Nat.mul_le_mul (by omega) (by have := OX; omega)
    omega⟩
theorem add_one (qn qd : Nat) : addF qn qd ((1 : Nat) : Int) ((1 : Nat) : Int) = addF qn qd 1 1 := rfl

/-- An array of two curves, that is read only. -/
structure Ar6 (w : World) (T : Nat) (a0 : Option Addr) (n0 k0 : Nat) (p0 i0 : Int) (a1 : Option Addr) (n1 k1 : Nat) (p1 i1 : Int) : Prop where
  c0 : w.cell? ⟨T, 0, none⟩ = some (.slice a0 n0 k0)
  c1 : w.cell? ⟨T, 1, none⟩ = some (.int .i64 p0)
  c2 : w.cell? ⟨T, 2, none⟩ = some (.int .i64 i0)
  c3 : w.cell? ⟨T, 3, none⟩ = some (.slice a1 n1 k1)
  c4 : w.cell? ⟨T, 4, none⟩ = some (.int .i64 p1)
  c5 : w.cell? ⟨T, 5, none⟩ = some (.int .i64 i1)
theorem Ar6.new (w : World) (a0 : Option Addr) (n0 k0 : Nat) (p0 i0 : Int) (a1 : Option Addr) (n1 k1 : Nat) (p1 i1 : Int) (t : TypeId) : Ar6 (w.alloc (.cells #[.slice a0 n0 k0, .int .i64 p0, .int .i64 i0, .slice a1 n1 k1, .int .i64 p1, .int .i64 i1] t)) w.heap.size a0 n0 k0 p0 i0 a1 n1 k1 p1 i1 :=
  ⟨by go_simp, by go_simp, by go_simp, by go_simp, by go_simp, by go_simp⟩
theorem Ar6.below {w w' : World} {T : Nat} {a0 : Option Addr} {n0 k0 : Nat} {p0 i0 : Int} {a1 : Option Addr} {n1 k1 : Nat} {p1 i1 : Int} (h : Ar6 w T a0 n0 k0 p0 i0 a1 n1 k1 p1 i1) (hb : Below w.heap.size w w') : Ar6 w' T a0 n0 k0 p0 i0 a1 n1 k1 p1 i1 := by
  obtain ⟨h1, _⟩ := bcell hb
  have l : T < w.heap.size := lt_of_cell h.c0
  exact ⟨(h1 T 0 l).trans h.c0, (h1 T 1 l).trans h.c1, (h1 T 2 l).trans h.c2, (h1 T 3 l).trans h.c3, (h1 T 4 l).trans h.c4, (h1 T 5 l).trans h.c5⟩

set_option maxRecDepth 100000 in
set_option maxHeartbeats 6400000 in
theorem bucketAdds_walk (W : World) (a : Option Addr) (n cap : Nat) (hrow : RowAt W a n cap) :
    Calls Try.prog 12 #[.slice a n cap] W fun e w' => e = .returned (.bool true) ∧ Below W.heap.size W w' := by
  have HR := Lib.hid hrow
  clear hrow
  go_enter Try.func12, Try.ntmps12
  go_wp2_with fail
  refine (new_any a n cap _ HR.out).mono ?_
  rintro e u1 ⟨rfl, hb1, hz1, ra, rn, rc, hs1⟩
  have HB1 := Lib.hid hb1
  have HS1 := Lib.hid hs1
  have Z1 := Lib.hid (show W.heap.size < u1.heap.size by omega)
  have HD := Lib.hid (Held.start hs1)
  clear hb1 hz1 hs1
  go_wp2_with fail
  refine (frac_any 30 3 (by omega) (by omega) (by omega) (by omega) _ ra rn rc _ (HD.out.at HS1.out)).mono ?_
  rintro e u2 ⟨x1, y1, hp, rfl, hs, ha⟩
  obtain ⟨bn, bd, rfl, rfl, f0, f1, f2, f3⟩ := frac_nat hp (by omega) (by omega)
  have Obn := Lib.hid (show okB bn bd = true ∧ bn ≤ 90 ∧ 1 ≤ bd ∧ bd ≤ 3 from ⟨f0, by omega, f2, by omega⟩)
  have HD := Lib.hid (HD.out.call hs ha)
  clear hs ha hp f0 f1 f2 f3
  go_wp2_with fail
  refine (frac_any 6 4 (by omega) (by omega) (by omega) (by omega) _ ra rn rc _ (HD.out.at HS1.out)).mono ?_
  rintro e u3 ⟨x1, y1, hp, rfl, hs, ha⟩
  obtain ⟨qn, qd, rfl, rfl, f0, f1, f2, f3⟩ := frac_nat hp (by omega) (by omega)
  have Oqn := Lib.hid (show okB qn qd = true ∧ qn ≤ 24 ∧ 1 ≤ qd ∧ qd ≤ 4 from ⟨f0, by omega, f2, by omega⟩)
  have HD := Lib.hid (HD.out.call hs ha)
  clear hs ha hp f0 f1 f2 f3
  obtain ⟨u4, hw⟩ : ∃ w', u3.alloc (.cells #[.int .i64 bn, .int .i64 bd, .int .i64 qn, .int .i64 qd] 74) = w' := ⟨_, rfl⟩
  have hz : Below u3.heap.size u3 u4 := by rw [← hw]; exact below_box _
  have hsA : W.heap.size < u3.heap.size := HD.out.lt
  have NEA := Lib.hid (show u3.heap.size ≠ W.heap.size by omega)
  have XA := Lib.hid (show Bk4 u4 u3.heap.size bn bd qn qd by rw [← hw]; exact Bk4.new _ _ _ _ _ _)
  have HD := Lib.hid (HD.out.below hz)
  have HW := Lib.hid hw
  clear hw hz hsA
  go_upto_region 3 with fail
  try rw [HW.out]
  obtain ⟨BA, hB⟩ : ∃ B, u3.heap.size = B := ⟨_, rfl⟩
  rw [hB] at XA NEA
  try rw [hB]
  clear HW hB
  go_wp2_with fail
  refine (frac_any 30 2 (by omega) (by omega) (by omega) (by omega) _ ra rn rc _ (HD.out.at HS1.out)).mono ?_
  rintro e u5 ⟨x1, y1, hp, rfl, hs, ha⟩
  obtain ⟨cn, cd, rfl, rfl, f0, f1, f2, f3⟩ := frac_nat hp (by omega) (by omega)
  have Ocn := Lib.hid (show okB cn cd = true ∧ cn ≤ 60 ∧ 1 ≤ cd ∧ cd ≤ 2 from ⟨f0, by omega, f2, by omega⟩)
  have HD := Lib.hid (HD.out.call hs ha)
  have XA := Lib.hid (XA.out.apart ha NEA.out)
  clear hs ha hp f0 f1 f2 f3
  go_wp2_with fail
  refine (frac_any 6 3 (by omega) (by omega) (by omega) (by omega) _ ra rn rc _ (HD.out.at HS1.out)).mono ?_
  rintro e u6 ⟨x1, y1, hp, rfl, hs, ha⟩
  obtain ⟨sn, sd, rfl, rfl, f0, f1, f2, f3⟩ := frac_nat hp (by omega) (by omega)
  have Osn := Lib.hid (show okB sn sd = true ∧ sn ≤ 18 ∧ 1 ≤ sd ∧ sd ≤ 3 from ⟨f0, by omega, f2, by omega⟩)
  have HD := Lib.hid (HD.out.call hs ha)
  have XA := Lib.hid (XA.out.apart ha NEA.out)
  clear hs ha hp f0 f1 f2 f3
  obtain ⟨u7, hw⟩ : ∃ w', u6.alloc (.cells #[.int .i64 cn, .int .i64 cd, .int .i64 sn, .int .i64 sd] 74) = w' := ⟨_, rfl⟩
  have hz : Below u6.heap.size u6 u7 := by rw [← hw]; exact below_box _
  have hsC : W.heap.size < u6.heap.size := HD.out.lt
  have NEC := Lib.hid (show u6.heap.size ≠ W.heap.size by omega)
  have XA := Lib.hid (XA.out.below hz)
  have XC := Lib.hid (show Bk4 u7 u6.heap.size cn cd sn sd by rw [← hw]; exact Bk4.new _ _ _ _ _ _)
  have HD := Lib.hid (HD.out.below hz)
  have HW := Lib.hid hw
  clear hw hz hsC
  go_upto_region 4 with fail
  try rw [HW.out]
  obtain ⟨BC, hB⟩ : ∃ B, u6.heap.size = B := ⟨_, rfl⟩
  rw [hB] at XC NEC
  try rw [hB]
  clear HW hB
  obtain ⟨c0, c1, c2, c3⟩ := XA.out
  go_wp2_with fail
  clear c0 c1 c2 c3
  have hsz : W.heap.size < u7.heap.size := HD.out.lt
  refine (token_ok Obn.out.1 Oqn.out.1 (by have := Obn.out; omega) (by have := Oqn.out; omega) (by have := Oqn.out; omega) _).mono ?_
  rintro e u8 ⟨af, nf, capf, zf, pf, jf, rfl, hb, hr, hf, hx⟩
  have Ff := Lib.hid hf
  have HD := Lib.hid (HD.out.below hb)
  have XA := Lib.hid (XA.out.below hb)
  have XC := Lib.hid (XC.out.below hb)
  clear hb hf
  obtain ⟨u9, hw⟩ : ∃ w', u8.alloc (.cells #[.slice af nf capf, .int .i64 pf, .int .i64 jf] 24) = w' := ⟨_, rfl⟩
  have hz : Below u8.heap.size u8 u9 := by rw [← hw]; exact below_box _
  have hsf : W.heap.size < u8.heap.size := HD.out.lt
  have NEf := Lib.hid (show u8.heap.size ≠ W.heap.size ∧ ∀ y, af = some y → ¬ y.block = W.heap.size from ⟨by omega, fun y hy => by have h1 := hx y hy; have h2 := hsz; omega⟩)
  have XA := Lib.hid (XA.out.below hz)
  have XC := Lib.hid (XC.out.below hz)
  have Xf := Lib.hid (show Bx u9 u8.heap.size af nf capf pf jf zf by rw [← hw]; exact Bx.new hr)
  have HD := Lib.hid (HD.out.below hz)
  have HW := Lib.hid hw
  clear hw hz hsf hr hx hsz
  go_upto_region 5 with fail
  try rw [HW.out]
  obtain ⟨Bf, hB⟩ : ∃ B, u8.heap.size = B := ⟨_, rfl⟩
  rw [hB] at Xf NEf
  try rw [hB]
  clear HW hB
  obtain ⟨c0, c1, c2, c3⟩ := XC.out
  go_wp2_with fail
  clear c0 c1 c2 c3
  have hsz : W.heap.size < u9.heap.size := HD.out.lt
  refine (token_ok Ocn.out.1 Osn.out.1 (by have := Ocn.out; omega) (by have := Osn.out; omega) (by have := Osn.out; omega) _).mono ?_
  rintro e u10 ⟨ag, ng, capg, zg, pg, jg, rfl, hb, hr, hf, hx⟩
  have Fg := Lib.hid hf
  have HD := Lib.hid (HD.out.below hb)
  have XA := Lib.hid (XA.out.below hb)
  have XC := Lib.hid (XC.out.below hb)
  have Xf := Lib.hid (Xf.out.under hb)
  clear hb hf
  obtain ⟨u11, hw⟩ : ∃ w', u10.alloc (.cells #[.slice ag ng capg, .int .i64 pg, .int .i64 jg] 24) = w' := ⟨_, rfl⟩
  have hz : Below u10.heap.size u10 u11 := by rw [← hw]; exact below_box _
  have hsg : W.heap.size < u10.heap.size := HD.out.lt
  have NEg := Lib.hid (show u10.heap.size ≠ W.heap.size ∧ ∀ y, ag = some y → ¬ y.block = W.heap.size from ⟨by omega, fun y hy => by have h1 := hx y hy; have h2 := hsz; omega⟩)
  have XA := Lib.hid (XA.out.below hz)
  have XC := Lib.hid (XC.out.below hz)
  have Xf := Lib.hid (Xf.out.under hz)
  have Xg := Lib.hid (show Bx u11 u10.heap.size ag ng capg pg jg zg by rw [← hw]; exact Bx.new hr)
  have HD := Lib.hid (HD.out.below hz)
  have HW := Lib.hid hw
  clear hw hz hsg hr hx hsz
  go_upto_region 6 with fail
  try rw [HW.out]
  obtain ⟨Bg, hB⟩ : ∃ B, u10.heap.size = B := ⟨_, rfl⟩
  rw [hB] at Xg NEg
  try rw [hB]
  clear HW hB
  go_wp2_with fail
  refine (n_any 30 (by omega) (by omega) _ ra rn rc _ (HD.out.at HS1.out)).mono ?_
  rintro e u12 ⟨r, ⟨r0, r1⟩, rfl, hs, he⟩
  obtain ⟨st, rfl⟩ := Int.eq_ofNat_of_zero_le r0
  have Nst := Lib.hid (show st < 30 by omega)
  have HD := Lib.hid (HD.out.call hs he.apart)
  have XA := Lib.hid (XA.out.apart he.apart NEA.out)
  have XC := Lib.hid (XC.out.apart he.apart NEC.out)
  have Xf := Lib.hid (show Bx u12 Bf af nf capf pf jf zf from ⟨Xf.out.box.apart he.apart NEf.out.1, Xf.out.row.apart he.apart NEf.out.2⟩)
  have Xg := Lib.hid (show Bx u12 Bg ag ng capg pg jg zg from ⟨Xg.out.box.apart he.apart NEg.out.1, Xg.out.row.apart he.apart NEg.out.2⟩)
  clear hs he r0 r1
  go_wp2_with fail
  refine (n_any 6 (by omega) (by omega) _ ra rn rc _ (HD.out.at HS1.out)).mono ?_
  rintro e u13 ⟨r, ⟨r0, r1⟩, rfl, hs, he⟩
  obtain ⟨ev0, rfl⟩ := Int.eq_ofNat_of_zero_le r0
  have Nev0 := Lib.hid (show ev0 < 6 by omega)
  have HD := Lib.hid (HD.out.call hs he.apart)
  have XA := Lib.hid (XA.out.apart he.apart NEA.out)
  have XC := Lib.hid (XC.out.apart he.apart NEC.out)
  have Xf := Lib.hid (show Bx u13 Bf af nf capf pf jf zf from ⟨Xf.out.box.apart he.apart NEf.out.1, Xf.out.row.apart he.apart NEf.out.2⟩)
  have Xg := Lib.hid (show Bx u13 Bg ag ng capg pg jg zg from ⟨Xg.out.box.apart he.apart NEg.out.1, Xg.out.row.apart he.apart NEg.out.2⟩)
  clear hs he r0 r1
  obtain ⟨ev, hev⟩ : ∃ ev : Nat, ev0 + 1 = ev := ⟨_, rfl⟩
  have hevi : (1 : Int) + (ev0 : Int) = (ev : Int) := by omega
  have hevw : IntKind.i64.wrap (ev : Int) = (ev : Int) := IntWalk.i64_in _ ⟨by omega, by have := Nev0.out; omega⟩
  have Nev := Lib.hid (show 1 ≤ ev ∧ ev ≤ 6 by have := Nev0.out; omega)
  clear hev
  go_wp2_with fail
  refine (n_any 9 (by omega) (by omega) _ ra rn rc _ (HD.out.at HS1.out)).mono ?_
  rintro e u14 ⟨r, ⟨r0, r1⟩, rfl, hs, he⟩
  obtain ⟨ah, rfl⟩ := Int.eq_ofNat_of_zero_le r0
  have Nah := Lib.hid (show ah < 9 by omega)
  have HD := Lib.hid (HD.out.call hs he.apart)
  have XA := Lib.hid (XA.out.apart he.apart NEA.out)
  have XC := Lib.hid (XC.out.apart he.apart NEC.out)
  have Xf := Lib.hid (show Bx u14 Bf af nf capf pf jf zf from ⟨Xf.out.box.apart he.apart NEf.out.1, Xf.out.row.apart he.apart NEf.out.2⟩)
  have Xg := Lib.hid (show Bx u14 Bg ag ng capg pg jg zg from ⟨Xg.out.box.apart he.apart NEg.out.1, Xg.out.row.apart he.apart NEg.out.2⟩)
  clear hs he r0 r1
  go_wp2_with fail
  have hsz : W.heap.size < u14.heap.size := HD.out.lt
  refine (steps_ok (st := st) (ev := ev) (ah := ah) (by have := Nst.out; omega) Nev.out.1 (by have := Nev.out; omega) (by have := Nah.out; omega) _).mono ?_
  rintro e u15 ⟨av, nv, capv, zv, pv, jv, rfl, hb, hr, hf, hx⟩
  have Fv := Lib.hid hf
  have HD := Lib.hid (HD.out.below hb)
  have XA := Lib.hid (XA.out.below hb)
  have XC := Lib.hid (XC.out.below hb)
  have Xf := Lib.hid (Xf.out.under hb)
  have Xg := Lib.hid (Xg.out.under hb)
  clear hb hf
  obtain ⟨u16, hw⟩ : ∃ w', u15.alloc (.cells #[.slice av nv capv, .int .i64 pv, .int .i64 jv] 24) = w' := ⟨_, rfl⟩
  have hz : Below u15.heap.size u15 u16 := by rw [← hw]; exact below_box _
  have hsv : W.heap.size < u15.heap.size := HD.out.lt
  have NEv := Lib.hid (show u15.heap.size ≠ W.heap.size ∧ ∀ y, av = some y → ¬ y.block = W.heap.size from ⟨by omega, fun y hy => by have h1 := hx y hy; have h2 := hsz; omega⟩)
  have XA := Lib.hid (XA.out.below hz)
  have XC := Lib.hid (XC.out.below hz)
  have Xf := Lib.hid (Xf.out.under hz)
  have Xg := Lib.hid (Xg.out.under hz)
  have Xv := Lib.hid (show Bx u16 u15.heap.size av nv capv pv jv zv by rw [← hw]; exact Bx.new hr)
  have HD := Lib.hid (HD.out.below hz)
  have HW := Lib.hid hw
  clear hw hz hsv hr hx hsz
  go_upto_region 7 with fail
  try rw [HW.out]
  obtain ⟨Bv, hB⟩ : ∃ B, u15.heap.size = B := ⟨_, rfl⟩
  rw [hB] at Xv NEv
  try rw [hB]
  clear HW hB
  clear hevi hevw
  go_upto_region 9 with fail
  obtain ⟨c0, c1, c2, c3⟩ := XA.out
  obtain ⟨u17, hw⟩ : ∃ w', u16.alloc (.cells #[.int .i64 bn, .int .i64 bd, .int .i64 qn, .int .i64 qd] 74) = w' := ⟨_, rfl⟩
  have hz : Below u16.heap.size u16 u17 := by rw [← hw]; exact below_box _
  have hs1 : W.heap.size < u16.heap.size := HD.out.lt
  have AD0 := Lib.hid (show AD u1 W.heap.size ra rn rc BA bn bd qn qd BC cn cd sn sd Bf af nf capf pf jf zf Bg ag ng capg pg jg zg Bv av nv capv pv jv zv u16.heap.size bn bd u17 from
    ⟨HD.out.below hz, XA.out.below hz, XC.out.below hz, Xf.out.under hz, Xg.out.under hz, Xv.out.under hz, by rw [← hw]; exact Bk6.new _ _ _ _ _ _, ⟨⟨NEA.out, NEC.out, by omega⟩, NEf.out, NEg.out, NEv.out⟩,
      ⟨XA.out.lt, XC.out.lt, ⟨Xf.out.box.lt, fun y e1 e2 => Xf.out.row.far y e1 e2⟩, ⟨Xg.out.box.lt, fun y e1 e2 => Xg.out.row.far y e1 e2⟩, ⟨Xv.out.box.lt, fun y e1 e2 => Xv.out.row.far y e1 e2⟩⟩, HD.out.ap.size, Z1.out⟩)
  have HW := Lib.hid hw
  clear hw hz hs1 XA XC Xf Xg Xv NEA NEC NEf NEg NEv HD
  go_upto_region 10 with fail
  try rw [HW.out]
  clear c0 c1 c2 c3 HW
  obtain ⟨BD, hB⟩ : ∃ B, u16.heap.size = B := ⟨_, rfl⟩
  rw [hB] at AD0
  try rw [hB]
  clear hB
  obtain ⟨xn, xd, hadd, hxo, hxe, hx1, hx2, hx3⟩ := add_small Oqn.out.1 (show okB ((1 : Nat) : Int) ((1 : Nat) : Int) = true by decide) (by have := Oqn.out; omega) (by have := Oqn.out; omega) (by omega) (by omega)
  have HA1 := Lib.hid ((add_one qn qd).symm.trans hadd)
  have OX := Lib.hid (show okB xn xd = true ∧ (qn + qd) * xd ≤ xn * qd ∧ 1 ≤ xd ∧ xd ≤ 4 ∧ xn ≤ 28 from ⟨hxo, by have e1 := hxe; rw [Nat.mul_one, Nat.mul_one, Nat.one_mul] at e1; omega, hx1, by have := Oqn.out; omega, by have := Oqn.out; omega⟩)
  clear hadd hxo hxe hx1 hx2 hx3
  obtain ⟨c0, c1, c2, c3⟩ := AD0.out.a
  obtain ⟨⟨d0, d1, d2, d3⟩, d4, d5⟩ := AD0.out.d
  go_wp2_with fail
  clear c0 c1 c2 c3 d0 d1 d2 d3 d4 d5
  refine (radd_all qn qd 1 1 _).mono ?_
  rintro e y1 ⟨rfl, hb⟩
  rw [HA1.out]
  have AD1 := Lib.hid (AD0.out.call hb)
  clear hb AD0
  obtain ⟨y2, hw⟩ : ∃ w', (y1.setCell ⟨BD, 0, none⟩ (.int .i64 xn)).setCell ⟨BD, 1, none⟩ (.int .i64 xd) = w' := ⟨_, rfl⟩
  have AD2 := Lib.hid (show AD u1 W.heap.size ra rn rc BA bn bd qn qd BC cn cd sn sd Bf af nf capf pf jf zf Bg ag ng capg pg jg zg Bv av nv capv pv jv zv BD xn xd y2 by rw [← hw]; exact AD1.out.put _ _)
  have HW := Lib.hid hw
  obtain ⟨⟨d0, d1, d2, d3⟩, d4, d5⟩ := AD1.out.d
  clear hw
  go_upto_region 11 with fail
  try rw [HW.out]
  clear HW AD1 d0 d1 d2 d3 d4 d5
  go_wp2_with fail
  refine (n_any 2 (by omega) (by omega) _ ra rn rc _ (AD2.out.hd.at HS1.out)).mono ?_
  rintro e y3 ⟨r, hr, rfl, hs, he⟩
  have AD3 := Lib.hid (AD2.out.read hs he.apart)
  clear hs he hr AD2
  go_upto_if 82 with fail
  go_cut [] (fun wx => ∃ (tn td : Nat), Hid (okB tn td = true ∧ (qn + qd) * td ≤ tn * qd ∧ 1 ≤ td ∧ td ≤ 12 ∧ tn ≤ 1000) ∧ Hid (AD u1 W.heap.size ra rn rc BA bn bd qn qd BC cn cd sn sd Bf af nf capf pf jf zf Bg ag ng capg pg jg zg Bv av nv capv pv jv zv BD tn td wx))
  case first =>
    by_cases hr0 : r = 0
    rotate_left
    · have t0 : (r == 0) = false := by simpa using hr0
      clear hr0
      go_wp2_with fail
      go_meet
      exact ⟨xn, xd, ⟨OX.out.1, OX.out.2.1, OX.out.2.2.1, by have := OX.out; omega, by have := OX.out; omega⟩, AD3⟩
    have t0 : (r == 0) = true := by simpa using hr0
    clear hr0
    go_upto_region 12 with fail
    have O0 := Lib.hid (AD3.out.call ((Below.refl y3.heap.size y3).drew))
    obtain ⟨⟨d0, d1, d2, d3⟩, d4, d5⟩ := O0.out.d
    have RD0 := Lib.hid (O0.out.hd.at HS1.out)
    go_region_with (first
      | (go_at_call 79; (with_reducible refine (frac_any 9 3 (by omega) (by omega) (by omega) (by omega) _ ra rn rc _ RD0.out).mono ?_); rintro e x1 ⟨fx, fy, hp, rfl, hs, ha⟩; obtain ⟨O1, fn, fd, rfl, rfl, f0, f2, tn, td, HA2, OT⟩ := deep_step OX.out O0.out hs ha hp; clear hs ha hp; obtain ⟨⟨d0', d1', d2', d3'⟩, d4', d5'⟩ := O1.out.d)
      | (go_at_call 87; (with_reducible refine (radd_all xn xd fn fd _).mono ?_); rintro e x2 ⟨rfl, hb⟩; rw [HA2.out]; have O2 := Lib.hid (O1.out.call hb); clear hb; obtain ⟨⟨d0'', d1'', d2'', d3''⟩, d4'', d5''⟩ := O2.out.d))
    all_goals
      have O3 := Lib.hid (show AD u1 W.heap.size ra rn rc BA bn bd qn qd BC cn cd sn sd Bf af nf capf pf jf zf Bg ag ng capg pg jg zg Bv av nv capv pv jv zv BD tn td ((x2.setCell ⟨BD, 0, none⟩ (.int .i64 tn)).setCell ⟨BD, 1, none⟩ (.int .i64 td)) from O2.out.put _ _)
      go_wp2_with fail
      go_meet
      exact ⟨tn, td, OT, O3⟩
  case rest =>
    obtain ⟨tn, td, OT, AD4⟩ := hcut
    obtain ⟨y4, rfl⟩ : ∃ u : World, u = wc := ⟨_, rfl⟩
    clear AD3
    obtain ⟨⟨d0, d1, d2, d3⟩, d4, d5⟩ := AD4.out.d
    go_wp2_with fail
    clear d0 d1 d2 d3 d4 d5
    refine (token_ok OT.out.1 Oqn.out.1 (by have := OT.out; omega) (by have := Oqn.out; omega) (by have := Oqn.out; omega) _).mono ?_
    rintro e y5 ⟨ad, nd, capd, zd, pd, jd, rfl, hb, hr, hf, hx⟩
    obtain ⟨y6, hw⟩ : ∃ w', y5.alloc (.cells #[.slice ad nd capd, .int .i64 pd, .int .i64 jd] 24) = w' := ⟨_, rfl⟩
    have hz : Below y4.heap.size y4 y6 := by rw [← hw]; exact hb.trans ((below_box _).mono hb.size)
    have Fd := Lib.hid hf
    have AD6 := Lib.hid (AD4.out.call hz)
    have Xd := Lib.hid (show Bx y6 y5.heap.size ad nd capd pd jd zd by rw [← hw]; exact Bx.new hr)
    have HW := Lib.hid hw
    clear hb hr hf hx hw hz AD4
    go_upto_region 14 with fail
    try rw [HW.out]
    obtain ⟨Bd, hB⟩ : ∃ B, y5.heap.size = B := ⟨_, rfl⟩
    rw [hB] at Xd
    try rw [hB]
    clear HW hB
    go_upto_region 16 with fail
    obtain ⟨c0, c1, c2, c3, c4, c5⟩ := Xd.out.box
    obtain ⟨e0, e1, e2, e3, e4, e5⟩ := AD6.out.v.box
    obtain ⟨y7, hw⟩ : ∃ w', y6.alloc (.cells #[.slice ad nd capd, .int .i64 pd, .int .i64 jd, .slice av nv capv, .int .i64 pv, .int .i64 jv] 24) = w' := ⟨_, rfl⟩
    have hz : Below y6.heap.size y6 y7 := by rw [← hw]; exact below_box _
    have AD7 := Lib.hid (AD6.out.call hz)
    have Xd := Lib.hid (Xd.out.under hz)
    have XT := Lib.hid (show Ar6 y7 y6.heap.size ad nd capd pd jd av nv capv pv jv by rw [← hw]; exact Ar6.new _ _ _ _ _ _ _ _ _ _ _ _)
    have HW := Lib.hid hw
    clear hw hz AD6
    go_upto_block 0 with fail
    try rw [HW.out]
    obtain ⟨BT, hB⟩ : ∃ B, y6.heap.size = B := ⟨_, rfl⟩
    rw [hB] at XT
    try rw [hB]
    clear HW hB c0 c1 c2 c3 c4 c5 e0 e1 e2 e3 e4 e5
    have SD := Lib.hid (form_subA Fd.out (tok_subA OT.out.2.2.1 (by have := Oqn.out; omega) OT.out.2.1))
    have SV := Lib.hid (form_subA Fv.out (stair_subA Nev.out.1))
    go_wp2_with fail
    go_loopw [103] (fun s wx => ∃ k : Nat, s = .int .i64 k ∧ k ≤ 2 ∧ Hid (Below y7.heap.size y7 wx)) (fun s _ => 2 - (intOf s).toNat)
    case atStart => exact ⟨0, by go_num, by omega, Below.refl _ _⟩
    case round =>
      obtain ⟨k, rfl, hk, HWB⟩ := hrel
      obtain ⟨z1, rfl⟩ : ∃ u : World, u = wr := ⟨_, rfl⟩
      have XT1 := Lib.hid (XT.out.below HWB.out)
      have AD8 := Lib.hid (AD7.out.call HWB.out)
      have Xd1 := Lib.hid (Xd.out.under HWB.out)
      by_cases h2 : k = 2
      · subst h2
        obtain ⟨wn, wd, hadd, hwo, hwe, hw1, hw2, hw3⟩ := add_small Obn.out.1 Ocn.out.1 (by have := Obn.out; omega) (by have := Obn.out; omega) (by have := Ocn.out; omega) (by have := Ocn.out; omega)
        obtain ⟨vn, vd, hadd', hvo, hve, hv1, hv2, hv3⟩ := add_small Oqn.out.1 Osn.out.1 (by have := Oqn.out; omega) (by have := Oqn.out; omega) (by have := Osn.out; omega) (by have := Osn.out; omega)
        have HA3 := Lib.hid (And.intro hadd hadd')
        have OW := Lib.hid (show (okB wn wd = true ∧ wn ≤ 1000 ∧ 1 ≤ wd) ∧ (okB vn vd = true ∧ vn ≤ 1000 ∧ 1 ≤ vd ∧ vd ≤ 12) from ⟨⟨hwo, by
          have e1 : bn * cd ≤ 90 * 2 := Nat.mul_le_mul (by have := Obn.out; omega) (by have := Ocn.out; omega)
          have e2 : cn * bd ≤ 60 * 3 := Nat.mul_le_mul (by have := Ocn.out; omega) (by have := Obn.out; omega)
          omega, hw1⟩, hvo, by
          have e1 : qn * sd ≤ 24 * 3 := Nat.mul_le_mul (by have := Oqn.out; omega) (by have := Osn.out; omega)
          have e2 : sn * qd ≤ 18 * 4 := Nat.mul_le_mul (by have := Osn.out; omega) (by have := Oqn.out; omega)
          omega, hv1, by
          have e1 : qd * sd ≤ 4 * 3 := Nat.mul_le_mul (by have := Oqn.out; omega) (by have := Osn.out; omega)
          omega⟩)
        have HP := Lib.hid (fun k => tok_plus (bn := bn) (bd := bd) (rn := qn) (rd := qd) (bn' := cn) (bd' := cd) (rn' := sn) (rd' := sd) (B := wn) (D := wd) (R := vn) (E := vd) (by have := Obn.out; omega) (by have := Oqn.out; omega) (by have := Ocn.out; omega) (by have := Osn.out; omega) hw1 hv1 hwe.symm hve.symm k)
        clear hadd hadd' hwo hwe hw1 hw2 hw3 hvo hve hv1 hv2 hv3
        obtain ⟨c0, c1, c2, c3⟩ := AD8.out.a
        obtain ⟨d0, d1, d2, d3⟩ := AD8.out.c
        go_wp2_with fail
        clear c0 c1 c2 c3 d0 d1 d2 d3
        refine (radd_all bn bd cn cd _).mono ?_
        rintro e z2 ⟨rfl, hb⟩
        rw [HA3.out.1]
        obtain ⟨z3, hw⟩ : ∃ w', z2.alloc (.cells #[.int .i64 wn, .int .i64 wd] 72) = w' := ⟨_, rfl⟩
        have hz : Below z1.heap.size z1 z3 := by rw [← hw]; exact hb.trans ((below_box _).mono hb.size)
        have AD9 := Lib.hid (AD8.out.call hz)
        have XW := Lib.hid (show Box z3 z2.heap.size wn wd by rw [← hw]; exact Box.new _ _ _ _)
        have HW := Lib.hid hw
        clear hb hw hz AD8 AD7 Xd1 Xd XT XT1
        go_upto_region 24 with fail
        try rw [HW.out]
        obtain ⟨BW, hB⟩ : ∃ B, z2.heap.size = B := ⟨_, rfl⟩
        rw [hB] at XW
        try rw [hB]
        clear HW hB
        obtain ⟨c0, c1, c2, c3⟩ := AD9.out.a
        obtain ⟨d0, d1, d2, d3⟩ := AD9.out.c
        go_wp2_with fail
        clear c0 c1 c2 c3 d0 d1 d2 d3
        refine (radd_all qn qd sn sd _).mono ?_
        rintro e z4 ⟨rfl, hb⟩
        rw [HA3.out.2]
        obtain ⟨z5, hw⟩ : ∃ w', z4.alloc (.cells #[.int .i64 vn, .int .i64 vd] 72) = w' := ⟨_, rfl⟩
        have hz : Below z3.heap.size z3 z5 := by rw [← hw]; exact hb.trans ((below_box _).mono hb.size)
        have AD10 := Lib.hid (AD9.out.call hz)
        have XW := Lib.hid (XW.out.below hz)
        have XV := Lib.hid (show Box z5 z4.heap.size vn vd by rw [← hw]; exact Box.new _ _ _ _)
        have HW := Lib.hid hw
        clear hb hw hz AD9
        go_upto_region 25 with fail
        try rw [HW.out]
        obtain ⟨BV, hB⟩ : ∃ B, z4.heap.size = B := ⟨_, rfl⟩
        rw [hB] at XV
        try rw [hB]
        clear HW hB
        obtain ⟨c0, c1, c2, c3⟩ := XW.out
        obtain ⟨d0, d1, d2, d3⟩ := XV.out
        go_wp2_with fail
        clear c0 c1 c2 c3 d0 d1 d2 d3
        refine (token_ok OW.out.1.1 OW.out.2.1 (by have := OW.out; omega) (by have := OW.out; omega) (by have := OW.out; omega) _).mono ?_
        rintro e z6 ⟨ao, no, capo, zo, po, jo, rfl, hb, hr, hf, hx⟩
        obtain ⟨z7, hw⟩ : ∃ w', z6.alloc (.cells #[.slice ao no capo, .int .i64 po, .int .i64 jo] 24) = w' := ⟨_, rfl⟩
        have hz : Below z5.heap.size z5 z7 := by rw [← hw]; exact hb.trans ((below_box _).mono hb.size)
        have Fo := Lib.hid hf
        have AD11 := Lib.hid (AD10.out.call hz)
        have Xo := Lib.hid (show Bx z7 z6.heap.size ao no capo po jo zo by rw [← hw]; exact Bx.new hr)
        have HW := Lib.hid hw
        clear hb hr hf hx hw hz AD10 XW XV
        go_upto_region 26 with fail
        try rw [HW.out]
        obtain ⟨Bo, hB⟩ : ∃ B, z6.heap.size = B := ⟨_, rfl⟩
        rw [hB] at Xo
        try rw [hB]
        clear HW hB
        obtain ⟨c0, c1, c2, c3, c4, c5⟩ := AD11.out.f.box
        obtain ⟨d0, d1, d2, d3, d4, d5⟩ := AD11.out.g.box
        go_wp2_with fail
        clear c0 c1 c2 c3 c4 c5 d0 d1 d2 d3 d4 d5
        refine (rsum_tok Ff.out Fg.out (by have := Obn.out; omega) (by have := Obn.out; omega) (by have := Oqn.out; omega) (by have := Oqn.out; omega) (by have := Oqn.out; omega) (by have := Ocn.out; omega) (by have := Ocn.out; omega) (by have := Osn.out; omega) (by have := Osn.out; omega) (by have := Osn.out; omega) _ _ _ _ _ _ _ AD11.out.f.row AD11.out.g.row).mono ?_
        rintro e z8 ⟨ay, ny, capy, zy, py, jy, rfl, hb, hr, hf, hx⟩
        obtain ⟨z9, hw⟩ : ∃ w', z8.alloc (.cells #[.slice ay ny capy, .int .i64 py, .int .i64 jy] 24) = w' := ⟨_, rfl⟩
        have hz : Below z7.heap.size z7 z9 := by rw [← hw]; exact hb.trans ((below_box _).mono hb.size)
        have Fy := Lib.hid hf
        have AD12 := Lib.hid (AD11.out.call hz)
        have Xo := Lib.hid (Xo.out.under hz)
        have Xy := Lib.hid (show Bx z9 z8.heap.size ay ny capy py jy zy by rw [← hw]; exact Bx.new hr)
        have HW := Lib.hid hw
        clear hb hr hf hx hw hz AD11
        go_upto_region 27 with fail
        try rw [HW.out]
        obtain ⟨By, hB⟩ : ∃ B, z8.heap.size = B := ⟨_, rfl⟩
        rw [hB] at Xy
        try rw [hB]
        clear HW hB
        obtain ⟨c0, c1, c2, c3, c4, c5⟩ := Xy.out.box
        obtain ⟨d0, d1, d2, d3, d4, d5⟩ := Xo.out.box
        go_wp2_with fail
        clear c0 c1 c2 c3 c4 c5 d0 d1 d2 d3 d4 d5
        refine (ratMost_yes _ _ _ _ _ _ Fy.out.good _ _ _ _ _ _ Fo.out.good (form_ole Fy.out Fo.out (fun t => ole_some (by
          have := HP.out t
          show ((tokN bn bd qn qd t : Nat) : Int) + (tokN cn cd sn sd t : Nat) ≤ (tokN wn wd vn vd t : Nat)
          omega))) _ Xy.out.row Xo.out.row).mono ?_
        rintro e z10 ⟨rfl, hb⟩
        have AD13 := Lib.hid (AD12.out.call hb)
        clear hb AD12
        go_wp2_with fail
        refine (awake11 _).mono ?_
        rintro e z11 ⟨rfl, hb⟩
        have AD14 := Lib.hid (AD13.out.call hb)
        clear hb AD13
        go_wp2_with fail
        go_ret
        exact ⟨rfl, HB1.out.trans (AD14.out.hd.ap.below (Nat.le_refl _) HB1.out.size)⟩
      · obtain ⟨c0, c1, c2, c3, c4, c5⟩ := XT1.out
        have hk01 : k = 0 ∨ k = 1 := by omega
        rcases hk01 with rfl | rfl
        · go_wp2_with fail
          clear c0 c1 c2 c3 c4 c5
          refine (csub_ok ad nd capd zd pd jd Fd.out.good true ⟨fun _ => SD.out, fun _ => rfl⟩ _ (Xd1.out.row.under (below_box _))).mono ?_
          rintro e z2 ⟨rfl, hb⟩
          have HWB2 := Lib.hid (HWB.out.trans (((below_box _).trans (hb.mono (below_box _).size)).mono HWB.out.size))
          clear hb
          go_wp2_with fail
          go_roundw
          case rel => exact ⟨1, by go_num, by omega, HWB2⟩
          case measure => simp [intOf]
        · go_wp2_with fail
          clear c0 c1 c2 c3 c4 c5
          refine (csub_ok av nv capv zv pv jv Fv.out.good true ⟨fun _ => SV.out, fun _ => rfl⟩ _ (AD8.out.v.row.under (below_box _))).mono ?_
          rintro e z2 ⟨rfl, hb⟩
          have HWB2 := Lib.hid (HWB.out.trans (((below_box _).trans (hb.mono (below_box _).size)).mono HWB.out.size))
          clear hb
          go_wp2_with fail
          go_roundw
          case rel => exact ⟨2, by go_num, by omega, HWB2⟩
          case measure => simp [intOf]

end Go.Proofs.Ytombgfpheiopgaa
