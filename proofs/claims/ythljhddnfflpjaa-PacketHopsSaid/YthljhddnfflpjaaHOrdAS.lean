/- Contracts of package order's small functions: value, leastMultiple, at, and the two closures. By the verifier's side. | Contracts of package order: subtract, firstPositive, settledBeforeStart. By the verifier's side. | Contracts of package order: firstPositive, settledBeforeStart. By the verifier's side. | Contracts of package order: Exceeds, AtMost, Settles, Meets. By the verifier's side. | The examples of chapter 4 (awake), and value. By the verifier's side. | Contracts of the document's comparisons. By the verifier's side. | Contracts of the document's Settles, Meets and AtMost. By the verifier's side. -/
import Derived.Test.YthljhddnfflpjaaHOrdMPwM
import Derived.Test.YthljhddnfflpjaaHRefV
import Derived.Test.YthljhddnfflpjaaHCurTNum
import Derived.Deep.RegionHeld3
import Derived.Test.YthljhddnfflpjaaHCurSLongKeepC
import Derived.Laws.OwnMore
import Derived.Deep.CutBlock
import Derived.Test.YthljhddnfflpjaaHBaseApartPickKeepS
import Derived.Test.YthljhddnfflpjaaHCurWCurveNormalW
import Derived.Test.YthljhddnfflpjaaHCurX
import Derived.RegionTactic
import Derived.StillTailTactics
import Derived.Test.YthljhddnfflpjaaHRefA
import Derived.Test.YthljhddnfflpjaaHRefO
namespace Go.Proofs.Ythljhddnfflpjaa
open Go.RowKit
set_option linter.unusedSimpArgs false

section
variable {w w' : World} {b : Nat} {x0 x1 x2 y0 y1 y2 z0 z1 z2 : Value}
end

section
variable {W u v : World} {b : Nat} {x0 x1 x2 y0 y1 y2 z0 z1 z2 : Value}
end

end Go.Proofs.Ythljhddnfflpjaa

namespace Go.Proofs.Ythljhddnfflpjaa
open Go.RowKit
set_option linter.unusedSimpArgs false

theorem finB_of {zs : List Int} {p : Nat} {inc : Int} (g : Good zs p inc) : finB zs p inc = true ↔ ¬ InfC zs := by
  unfold finB InfC; rw [(okC_iff zs p inc).2 g]; simp

end Go.Proofs.Ythljhddnfflpjaa

namespace Go.Proofs.Ythljhddnfflpjaa
open Go.RowKit
set_option linter.unusedSimpArgs false

section
variable {w w' : World} {a : Option Addr} {n cap : Nat} {zs : List Int} {p : Nat} {inc : Int} {a2 : Option Addr} {n2 cap2 : Nat} {ys : List Int} {q : Nat} {jnc : Int} {S L : Nat}
end

end Go.Proofs.Ythljhddnfflpjaa

namespace Go.Proofs.Ythljhddnfflpjaa
open Go.RowKit
set_option linter.unusedSimpArgs false

/-- A tick, whether there is one, and an error code. -/
def Tick3 (t : Int) (ok : Bool) (e : Int) (w : World) (en : Ending) (w' : World) : Prop := en = .returned (.tuple #[.int .i64 t, .bool ok, .int .i64 e]) ∧ Below w.heap.size w w'

section
variable (a : Option Addr) (n cap : Nat) (zs : List Int) (p inc : Int) (hp : In64 p) (hi : In64 inc) (a2 : Option Addr) (n2 cap2 : Nat) (ys : List Int) (q jnc : Int) (hq : In64 q) (hj : In64 jnc)
    (hv : okC zs p inc = false ∨ okC ys q jnc = false) (w : World) (h : RowZ w a n cap zs) (h2 : RowZ w a2 n2 cap2 ys)
theorem two_boxes (w : World) (o o2 : Obj) : Below w.heap.size w ((w.alloc o).alloc o2) := ((Below.refl _ _).alloc (Nat.le_refl _) _).alloc (by simp) _

include hp hi hq hj hv h h2
end

section
variable (a : Option Addr) (n cap : Nat) (zs : List Int) (p : Nat) (inc : Int) (g : Good zs p inc) (a2 : Option Addr) (n2 cap2 : Nat) (ys : List Int) (q : Nat) (jnc : Int) (k : Good ys q jnc) (t : Int) (ok : Bool)
    (w : World) (h : RowZ w a n cap zs) (h2 : RowZ w a2 n2 cap2 ys)

include g k h h2
end
end Go.Proofs.Ythljhddnfflpjaa

namespace Go.Proofs.Ythljhddnfflpjaa
open Go.RowKit
set_option linter.unusedSimpArgs false

end Go.Proofs.Ythljhddnfflpjaa

namespace Go.Proofs.Ythljhddnfflpjaa
open Go.RowKit
set_option linter.unusedSimpArgs false

/-- b says whether P holds. -/
def IffB (b : Bool) (P : Prop) : Prop := b = true ↔ P
theorem IffB.get {P : Prop} (h : IffB true P) : P := h.1 rfl

/-- Three numbers, in a later world. -/
def Nums3 (x y z : Int) (w : World) (en : Ending) (w' : World) : Prop := en = .returned (.tuple #[.int .i64 x, .int .i64 y, .int .i64 z]) ∧ Below w.heap.size w w'

set_option maxRecDepth 100000 in
set_option maxHeartbeats 3200000 in
theorem window_any (a : Option Addr) (n cap : Nat) (zs : List Int) (p : Nat) (inc : Int) (g : Good zs p inc) (a2 : Option Addr) (n2 cap2 : Nat) (ys : List Int) (q : Nat) (jnc : Int) (k : Good ys q jnc) (m L : Nat) (G : Int)
    (hm : max n n2 = m) (hL : p / Nat.gcd p q * q = L) (hG : ((L / p : Nat) : Int) * inc - ((L / q : Nat) : Int) * jnc = G) (w : World) (h : RowZ w a n cap zs) (h2 : RowZ w a2 n2 cap2 ys) :
    Calls Try.prog 245 #[curV a n cap p inc, curV a2 n2 cap2 q jnc] w (Nums3 m L G w) := by
  have hB := two_boxes w (.cells #[.slice a n cap, .int .i64 p, .int .i64 inc] 24) (.cells #[.slice a2 n2 cap2, .int .i64 q, .int .i64 jnc] 24)
  have HBl := Lib.hid hB
  have T0 := Lib.hid (show Two ((w.alloc (.cells #[.slice a n cap, .int .i64 p, .int .i64 inc] 24)).alloc (.cells #[.slice a2 n2 cap2, .int .i64 q, .int .i64 jnc] 24)) w.heap.size a n cap p inc zs (w.heap.size + 1) a2 n2 cap2 q jnc ys from
    ⟨(Cur3.new w (.slice a n cap) (.int .i64 p) (.int .i64 inc) 24).alloc _, h.under hB, Cur3.new2 w _ _ _ _ _, h2.under hB⟩)
  have hgp1 := g.p1; have hgp2 := g.p2; have hgi0 := g.i0; have hgi1 := g.i1
  have hkp1 := k.p1; have hkp2 := k.p2; have hki0 := k.i0; have hki1 := k.i1
  have hLL := lcm_of hgp1 hkp1 hL
  have hLb : L ≤ 14400 := Nat.le_trans hLL.le (Nat.mul_le_mul hgp2 hkp2)
  have HL := Lib.hid hL
  have hn3 := h.sm
  have hn4 := h2.sm
  obtain ⟨lp, hlp⟩ : ∃ l, L / p = l := ⟨_, rfl⟩
  obtain ⟨lq, hlq⟩ : ∃ l, L / q = l := ⟨_, rfl⟩
  have hlp2 : lp ≤ L := by rw [← hlp]; exact Nat.div_le_self _ _
  have hlq2 : lq ≤ L := by rw [← hlq]; exact Nat.div_le_self _ _
  rw [hlp, hlq] at hG
  obtain ⟨X1, hX1⟩ : ∃ x, (lp : Int) * inc = x := ⟨_, rfl⟩
  obtain ⟨X2, hX2⟩ : ∃ x, (lq : Int) * jnc = x := ⟨_, rfl⟩
  have hX1b : 0 ≤ X1 ∧ X1 ≤ 14400 * 1073741824 := by
    rw [← hX1]; exact ⟨Int.mul_nonneg (by omega) hgi0, Int.mul_le_mul (by omega) hgi1 hgi0 (by omega)⟩
  have hX2b : 0 ≤ X2 ∧ X2 ≤ 14400 * 1073741824 := by
    rw [← hX2]; exact ⟨Int.mul_nonneg (by omega) hki0, Int.mul_le_mul (by omega) hki1 hki0 (by omega)⟩
  rw [hX1, hX2] at hG
  have q3 : (L : Int).tdiv (p : Int) = (lp : Int) := by rw [← hlp]; rfl
  have q4 : (L : Int).tdiv (q : Int) = (lq : Int) := by rw [← hlq]; rfl
  have q3' : (L : Int) / (p : Int) = (lp : Int) := by rw [← hlp]; rfl
  have q4' : (L : Int) / (q : Int) = (lq : Int) := by rw [← hlq]; rfl
  have q5 : IntKind.i64.wrap (lp : Int) = (lp : Int) := IntWalk.i64_in _ ⟨by omega, by omega⟩
  have q6 : IntKind.i64.wrap (lq : Int) = (lq : Int) := IntWalk.i64_in _ ⟨by omega, by omega⟩
  have q7 : IntKind.i64.wrap (inc * (lp : Int)) = X1 := by rw [Int.mul_comm, hX1]; exact IntWalk.i64_in _ ⟨by omega, by omega⟩
  have q8 : IntKind.i64.wrap (jnc * (lq : Int)) = X2 := by rw [Int.mul_comm, hX2]; exact IntWalk.i64_in _ ⟨by omega, by omega⟩
  have q9 : IntKind.i64.wrap (X1 - X2) = G := by rw [hG]; exact IntWalk.i64_in _ ⟨by omega, by omega⟩
  have q10 : ¬ p = 0 := by omega
  have q11 : ¬ q = 0 := by omega
  have q12 : ¬ (p : Int) = 0 := by omega
  have q13 : ¬ (q : Int) = 0 := by omega
  have hcmp : (n2 ≤ n ∧ n = m) ∨ (n < n2 ∧ n2 = m) := by omega
  clear h h2 hB hL hLL hG hlp hlq hX1 hX2 hm g k
  rcases hcmp with ⟨h12, hme⟩ | ⟨h12, hme⟩
  all_goals subst hme
  all_goals go_enter Try.func245, Try.ntmps245
  all_goals go_wp2_with fail
  · have h12' : (n2 : Int) ≤ (n : Int) := by omega
    have hd12 : decide (n < n2) = false := by simp; omega
    have hd13 : ¬ n < n2 := by omega
    generalize (w.alloc (.cells #[.slice a n cap, .int .i64 p, .int .i64 inc] 24)).alloc (.cells #[.slice a2 n2 cap2, .int .i64 q, .int .i64 jnc] 24) = w0 at HBl T0 ⊢
    have KD := Lib.hid (fun (u : World) (hu : Below w0.heap.size w0 u) => (show Two6 w0 w.heap.size a n cap p inc zs (w.heap.size + 1) a2 n2 cap2 q jnc ys u from two6_s (T0.out.under hu) hu))
    have hb0 := Lib.hid (Below.refl w0.heap.size w0).drew
    go_region_held3 (fun u => Two6 w0 w.heap.size a n cap p inc zs (w.heap.size + 1) a2 n2 cap2 q jnc ys u)
      (first | with_reducible exact KD.out _ hb0.out | with_reducible exact KD.out _ hbz.out)
      (first | (go_at_call 207; refine (lcm_at p q L HL.out hgp1 (by omega) hkp1 (by omega) _).mono ?_; rintro e w1 ⟨rfl, hd0⟩; have hbz := Lib.hid (below_dr (Below.refl w0.heap.size w0).drew hd0); clear hd0))
    all_goals
      have T1 := Lib.hid (T0.out.under hbz.out)
      have HB1 := Lib.hid (HBl.out.trans (hbz.out.mono HBl.out.size))
      clear T0
      obtain ⟨c0, c1, c2, f0, f1, f2⟩ := T1.out.bx
      obtain ⟨d0, d1, d2, g0, g1, g2⟩ := T1.out.by'
      go_wp2_with fail
      go_quiet (fail)
      go_wp2_with fail
      exact bodyPost_ret (v := .tuple #[.int .i64 n, .int .i64 L, .int .i64 G]) (by simp [results, Try.results245, go_sem]) rfl ⟨rfl, HB1.out.drewN _⟩
  · have h12' : (n : Int) < (n2 : Int) := by omega
    have hd12 : decide (n < n2) = true := by simp; omega
    generalize (w.alloc (.cells #[.slice a n cap, .int .i64 p, .int .i64 inc] 24)).alloc (.cells #[.slice a2 n2 cap2, .int .i64 q, .int .i64 jnc] 24) = w0 at HBl T0 ⊢
    have KD := Lib.hid (fun (u : World) (hu : Below w0.heap.size w0 u) => (show Two6 w0 w.heap.size a n cap p inc zs (w.heap.size + 1) a2 n2 cap2 q jnc ys u from two6_s (T0.out.under hu) hu))
    have hb0 := Lib.hid (Below.refl w0.heap.size w0).drew
    go_region_held3 (fun u => Two6 w0 w.heap.size a n cap p inc zs (w.heap.size + 1) a2 n2 cap2 q jnc ys u)
      (first | with_reducible exact KD.out _ hb0.out | with_reducible exact KD.out _ hbz.out)
      (first | (go_at_call 207; refine (lcm_at p q L HL.out hgp1 (by omega) hkp1 (by omega) _).mono ?_; rintro e w1 ⟨rfl, hd0⟩; have hbz := Lib.hid (below_dr (Below.refl w0.heap.size w0).drew hd0); clear hd0))
    all_goals
      have T1 := Lib.hid (T0.out.under hbz.out)
      have HB1 := Lib.hid (HBl.out.trans (hbz.out.mono HBl.out.size))
      clear T0
      obtain ⟨c0, c1, c2, f0, f1, f2⟩ := T1.out.bx
      obtain ⟨d0, d1, d2, g0, g1, g2⟩ := T1.out.by'
      go_wp2_with fail
      go_quiet (fail)
      go_wp2_with fail
      exact bodyPost_ret (v := .tuple #[.int .i64 n2, .int .i64 L, .int .i64 G]) (by simp [results, Try.results245, go_sem]) rfl ⟨rfl, HB1.out.drewN _⟩

/-- The document's difference of two values. -/
def abV (x y : Int) : Int := if x = infV ∨ y = infV then (if y = infV then 0 else 1) else x - y
theorem abV_hi {x y : Int} (hy : y = infV) : abV x y = 0 := by unfold abV; rw [if_pos (.inr hy), if_pos hy]
theorem abV_up {x y : Int} (hx : x = infV) (hy : ¬ y = infV) : abV x y = 1 := by unfold abV; rw [if_pos (.inl hx), if_neg hy]
theorem abV_no {x y : Int} (hx : ¬ x = infV) (hy : ¬ y = infV) : abV x y = x - y := by unfold abV; rw [if_neg (fun h => h.elim hx hy)]

theorem ab_sign {zs ys : List Int} {p q : Nat} {inc jnc : Int} (g : Good zs p inc) (k : Good ys q jnc) {t : Nat} (ht : t ≤ 1048576) : 0 < abV (atC zs p inc t) (atC ys q jnc t) ↔ 0 < dC zs p inc ys q jnc t := by
  rw [(dC_sign g k ht).1]
  obtain ⟨b1, b2⟩ := at_bd g ht
  obtain ⟨b3, b4⟩ := at_bd k ht
  generalize atC zs p inc t = x at *
  generalize atC ys q jnc t = y at *
  by_cases hy : y = infV
  · rw [abV_hi hy, hy]; unfold infV; omega
  · by_cases hx : x = infV
    · rw [abV_up hx hy, hx]; unfold infV at *; omega
    · rw [abV_no hx hy]; omega
theorem ab_exact {zs ys : List Int} {p q : Nat} {inc jnc : Int} (g : Good zs p inc) (k : Good ys q jnc) (h1 : ¬ InfC zs) (h2 : ¬ InfC ys) {t : Nat} (ht : t ≤ 1048576) : abV (atC zs p inc t) (atC ys q jnc t) = dC zs p inc ys q jnc t := by
  rw [dC_fin h1 h2, abV_no (fun h => h1 (g.inf_at (t := t) (by omega) h)) (fun h => h2 (k.inf_at (t := t) (by omega) h))]
set_option maxRecDepth 100000 in
set_option maxHeartbeats 3200000 in
theorem above_at (a : Option Addr) (n cap : Nat) (zs : List Int) (p : Nat) (inc : Int) (g : Good zs p inc) (a2 : Option Addr) (n2 cap2 : Nat) (ys : List Int) (q : Nat) (jnc : Int) (k : Good ys q jnc)
    (ti : Int) (t : Nat) (hti : ti = t) (ht : t ≤ 1048576) (v : Int) (hv : abV (atC zs p inc t) (atC ys q jnc t) = v) (w : World) (h : RowZ w a n cap zs) (h2 : RowZ w a2 n2 cap2 ys) :
    Calls Try.prog 246 #[curV a n cap p inc, curV a2 n2 cap2 q jnc, .int .i64 ti] w (Says (.int .i64 v) w) := by
  subst hti
  have hB := two_boxes w (.cells #[.slice a n cap, .int .i64 p, .int .i64 inc] 24) (.cells #[.slice a2 n2 cap2, .int .i64 q, .int .i64 jnc] 24)
  have HBl := Lib.hid hB
  have T0 := Lib.hid (show Two ((w.alloc (.cells #[.slice a n cap, .int .i64 p, .int .i64 inc] 24)).alloc (.cells #[.slice a2 n2 cap2, .int .i64 q, .int .i64 jnc] 24)) w.heap.size a n cap p inc zs (w.heap.size + 1) a2 n2 cap2 q jnc ys from
    ⟨(Cur3.new w (.slice a n cap) (.int .i64 p) (.int .i64 inc) 24).alloc _, h.under hB, Cur3.new2 w _ _ _ _ _, h2.under hB⟩)
  obtain ⟨b1, b2⟩ := at_bd g ht
  obtain ⟨b3, b4⟩ := at_bd k ht
  obtain ⟨x, hx⟩ : ∃ x, atC zs p inc t = x := ⟨_, rfl⟩
  obtain ⟨y, hy⟩ : ∃ y, atC ys q jnc t = y := ⟨_, rfl⟩
  rw [hx] at b1 b2 hv
  rw [hy] at b3 b4 hv
  have HG := Lib.hid g
  have HK := Lib.hid k
  have HX := Lib.hid hx
  have HY := Lib.hid hy
  have HV := Lib.hid hv
  clear h h2 hB g k hx hy hv
  go_enter Try.func246, Try.ntmps246
  go_wp2_with fail
  generalize (w.alloc (.cells #[.slice a n cap, .int .i64 p, .int .i64 inc] 24)).alloc (.cells #[.slice a2 n2 cap2, .int .i64 q, .int .i64 jnc] 24) = w0 at HBl T0 ⊢
  go_region_held3 (fun u => Two6 w0 w.heap.size a n cap p inc zs (w.heap.size + 1) a2 n2 cap2 q jnc ys u)
    (first | with_reducible exact two6_drew T0.out | with_reducible exact two6_call (by assumption) hbx)
    (first
      | (go_at_call 59; ((with_reducible refine (rat_at a n cap zs p inc HG.out t t rfl (by omega) x HX.out _ (two6_of (by assumption)).rx).mono ?_); rintro e w1 ⟨rfl, hbx⟩))
      | (go_at_call 59; ((with_reducible refine (rat_at a2 n2 cap2 ys q jnc HK.out t t rfl (by omega) y HY.out _ (two6_of (by assumption)).ry).mono ?_); rintro e w2 ⟨rfl, hbx⟩)))
  have hT : Two6 w0 w.heap.size a n cap p inc zs (w.heap.size + 1) a2 n2 cap2 q jnc ys w2 := by assumption
  have HB2 := Lib.hid (HBl.out.trans ((two6_below hT).mono HBl.out.size))
  clear hT T0 HX HY
  by_cases hy : y = 4611686018427387904
  · have t1 : (y == 4611686018427387904) = true := by simpa using hy
    obtain rfl : v = 0 := by rw [← HV.out, abV_hi hy]
    clear hy
    by_cases hx : x = 4611686018427387904
    · have t2 : (x == 4611686018427387904) = true := by simpa using hx
      clear hx
      go_wp2_with fail
      go_ret
      exact ⟨rfl, HB2.out⟩
    · have t2 : (x == 4611686018427387904) = false := by simpa using hx
      clear hx
      go_wp2_with fail
      go_ret
      exact ⟨rfl, HB2.out⟩
  · have t1 : (y == 4611686018427387904) = false := by simpa using hy
    by_cases hx : x = 4611686018427387904
    · have t2 : (x == 4611686018427387904) = true := by simpa using hx
      obtain rfl : v = 1 := by rw [← HV.out, abV_up hx hy]
      clear hx hy
      go_wp2_with fail
      go_ret
      exact ⟨rfl, HB2.out⟩
    · have t2 : (x == 4611686018427387904) = false := by simpa using hx
      have hxy : x - y = v := by rw [← HV.out, abV_no hx hy]
      have HXY := Lib.hid hxy
      clear hx hy hxy
      go_wp2_with fail
      go_ret
      exact ⟨ret_int HXY.out, HB2.out⟩

/-- What the document's loop over the residue classes has found. -/
def MinJ (d : Nat → Int) (S L : Nat) (c : Int) (r : Nat) (x : Int) : Prop :=
  (r = 0 ∧ x = -1) ∨ (0 ≤ x ∧ (∀ s, s < r → x ≤ farT d S L c s) ∧ ∃ s, s < r ∧ x = farT d S L c s)
theorem MinJ.first {d : Nat → Int} {S L : Nat} {c : Int} {r : Nat} {x y : Int} (h : MinJ d S L c r x) (hy : farT d S L c r = y) (hx : x < 0) (hy0 : 0 ≤ y := by omega) : MinJ d S L c (r + 1) y := by
  rcases h with ⟨rfl, rfl⟩ | ⟨h0, _⟩
  · exact .inr ⟨hy0, fun s hs => by obtain rfl : s = 0 := by omega
                                    omega, 0, by omega, hy.symm⟩
  · omega
theorem MinJ.step {d : Nat → Int} {S L : Nat} {c : Int} {r : Nat} {x y z : Int} (h : MinJ d S L c r x) (hy : farT d S L c r = y) (hx : 0 ≤ x) (hz : z = min x y) (hy0 : 0 ≤ y := by omega) : MinJ d S L c (r + 1) z := by
  rcases h with ⟨rfl, rfl⟩ | ⟨h0, h1, s, hs, rfl⟩
  · omega
  · refine .inr ⟨by omega, fun u hu => ?_, ?_⟩
    · by_cases he : u = r
      · subst he; omega
      · have := h1 u (by omega); omega
    · by_cases hle : farT d S L c s ≤ y
      · exact ⟨s, by omega, by omega⟩
      · exact ⟨r, by omega, by omega⟩
theorem MinJ.last {d : Nat → Int} {S L : Nat} {c : Int} {x : Int} (h : MinJ d S L c L x) (hL : 1 ≤ L) : (∀ r, r < L → x ≤ farT d S L c r) ∧ ∃ r, r < L ∧ x = farT d S L c r := by
  rcases h with ⟨h0, _⟩ | ⟨_, h1, h2⟩
  · omega
  · exact ⟨h1, h2⟩

section
variable (a : Option Addr) (n cap : Nat) (zs : List Int) (p : Nat) (inc : Int) (g : Good zs p inc) (a2 : Option Addr) (n2 cap2 : Nat) (ys : List Int) (q : Nat) (jnc : Int) (k : Good ys q jnc) (t : Int) (ok : Bool)
    (w : World) (h : RowZ w a n cap zs) (h2 : RowZ w a2 n2 cap2 ys)
include g k h h2

set_option maxRecDepth 100000 in
set_option maxHeartbeats 6400000 in
theorem rexceeds_ok (hE : ExcP (dC zs p inc ys q jnc) t ok) : Calls Try.prog 182 #[curV a n cap p inc, curV a2 n2 cap2 q jnc] w (Tick3 t ok 0 w) := by
  have hB := two_boxes w (.cells #[.slice a n cap, .int .i64 p, .int .i64 inc] 24) (.cells #[.slice a2 n2 cap2, .int .i64 q, .int .i64 jnc] 24)
  have HBl := Lib.hid hB
  have T0 := Lib.hid (show Two ((w.alloc (.cells #[.slice a n cap, .int .i64 p, .int .i64 inc] 24)).alloc (.cells #[.slice a2 n2 cap2, .int .i64 q, .int .i64 jnc] 24)) w.heap.size a n cap p inc zs (w.heap.size + 1) a2 n2 cap2 q jnc ys from
    ⟨(Cur3.new w (.slice a n cap) (.int .i64 p) (.int .i64 inc) 24).alloc _, h.under hB, Cur3.new2 w _ _ _ _ _, h2.under hB⟩)
  obtain ⟨m, hm⟩ : ∃ m, max n n2 = m := ⟨_, rfl⟩
  obtain ⟨L, hL⟩ : ∃ L, p / Nat.gcd p q * q = L := ⟨_, rfl⟩
  obtain ⟨G, hG⟩ : ∃ G, ((L / p : Nat) : Int) * inc - ((L / q : Nat) : Int) * jnc = G := ⟨_, rfl⟩
  obtain ⟨c, hc⟩ : ∃ c, growC zs p inc ys q jnc L = c := ⟨_, rfl⟩
  have hLL := lcm_of g.p1 k.p1 hL
  have hL1 := hLL.one
  have hLb : L ≤ 14400 := Nat.le_trans hLL.le (Nat.mul_le_mul g.p2 k.p2)
  have hmb : m ≤ 400 := by have := g.few; have := k.few; have := h.len; have := h2.len; omega
  have hPer := dC_per g k hLL (show zs.length - p ≤ m by have := h.len; omega) (show ys.length - q ≤ m by have := h2.len; omega)
  rw [hc] at hPer
  have HP := Lib.hid hPer
  have hcf : ¬ InfC zs → ¬ InfC ys → c = G := fun i1 i2 => by rw [← hc, growC_fin i1 i2, hG]
  have hci : InfC zs ∨ InfC ys → c = 0 := fun i => by rw [← hc, growC_inf g k i]
  have HCF := Lib.hid (And.intro hcf hci)
  have hGb : -(14400 * 1073741824) ≤ G ∧ G ≤ 14400 * 1073741824 := by
    obtain ⟨lp, hlp⟩ : ∃ l, L / p = l := ⟨_, rfl⟩
    obtain ⟨lq, hlq⟩ : ∃ l, L / q = l := ⟨_, rfl⟩
    have hlp2 : lp ≤ L := by rw [← hlp]; exact Nat.div_le_self _ _
    have hlq2 : lq ≤ L := by rw [← hlq]; exact Nat.div_le_self _ _
    rw [hlp, hlq] at hG
    have e1 : 0 ≤ (lp : Int) * inc := Int.mul_nonneg (by omega) g.i0
    have e2 : 0 ≤ (lq : Int) * jnc := Int.mul_nonneg (by omega) k.i0
    have e3 : (lp : Int) * inc ≤ 14400 * 1073741824 := Int.mul_le_mul (by omega) g.i1 g.i0 (by omega)
    have e4 : (lq : Int) * jnc ≤ 14400 * 1073741824 := Int.mul_le_mul (by omega) k.i1 k.i0 (by omega)
    omega
  obtain ⟨hGb1, hGb2⟩ := hGb
  obtain ⟨M, hM⟩ : ∃ M, m + L = M := ⟨_, rfl⟩
  have qM : (m : Int) + (L : Int) = (M : Int) := by omega
  have hMb : M ≤ 20000 := by omega
  have HW := Lib.hid (And.intro hm (And.intro hL hG))
  have HMM := Lib.hid hM
  have HG := Lib.hid g
  have HK := Lib.hid k
  have HE := Lib.hid hE
  have V1 := Lib.hid ((okC_iff zs p inc).2 g)
  have V2 := Lib.hid ((okC_iff ys q jnc).2 k)
  have ip := g.p2; have ii0 := g.i0; have ii1 := g.i1
  have iq := k.p2; have ij0 := k.i0; have ij1 := k.i1
  obtain ⟨b1, hb1⟩ : ∃ b, finB zs p inc = b := ⟨_, rfl⟩
  obtain ⟨b2, hb2⟩ : ∃ b, finB ys q jnc = b := ⟨_, rfl⟩
  have hF1 : b1 = true ↔ ¬ InfC zs := by rw [← hb1]; exact finB_of g
  have hF2 : b2 = true ↔ ¬ InfC ys := by rw [← hb2]; exact finB_of k
  have HB12 := Lib.hid (And.intro hb1 hb2)
  have hcb : (b1 = true ∧ b2 = true ∧ c = G) ∨ (¬ (b1 = true ∧ b2 = true) ∧ c = 0) := by
    by_cases x1 : b1 = true
    · by_cases x2 : b2 = true
      · exact .inl ⟨x1, x2, hcf (hF1.1 x1) (hF2.1 x2)⟩
      · exact .inr ⟨fun hh => x2 hh.2, hci (.inr (Classical.byContradiction fun hn => x2 (hF2.2 hn)))⟩
    · exact .inr ⟨fun hh => x1 hh.1, hci (.inl (Classical.byContradiction fun hn => x1 (hF1.2 hn)))⟩
  have HCB := Lib.hid hcb
  have HFF := Lib.hid (And.intro (show IffB b1 (¬ InfC zs) from hF1) (show IffB b2 (¬ InfC ys) from hF2))
  clear h h2 hB hm hL hG hc hLL hPer hcf hci hM g k hE hb1 hb2 hF1 hF2 hcb
  go_enter Try.func182, Try.ntmps182
  go_wp2_with fail
  generalize (w.alloc (.cells #[.slice a n cap, .int .i64 p, .int .i64 inc] 24)).alloc (.cells #[.slice a2 n2 cap2, .int .i64 q, .int .i64 jnc] 24) = w0 at HBl T0 ⊢
  refine (rvalid_any a n cap zs p inc ⟨by omega, by omega⟩ ⟨by omega, by omega⟩ true V1.out _ T0.out.rx).mono ?_
  rintro e w1 ⟨rfl, hb⟩
  have T1 := Lib.hid (T0.out.under hb)
  have HB1 := Lib.hid (HBl.out.trans (hb.mono HBl.out.size))
  clear hb T0 HBl
  obtain ⟨d0, d1, d2, g0, g1, g2⟩ := T1.out.by'
  go_wp2_with fail
  clear d0 d1 d2 g0 g1 g2
  refine (rvalid_any a2 n2 cap2 ys q jnc ⟨by omega, by omega⟩ ⟨by omega, by omega⟩ true V2.out _ T1.out.ry).mono ?_
  rintro e w2 ⟨rfl, hb⟩
  have T2 := Lib.hid (T1.out.under hb)
  have HB2 := Lib.hid (HB1.out.trans (hb.mono HB1.out.size))
  clear hb T1 HB1
  obtain ⟨c0, c1, c2, f0, f1, f2⟩ := T2.out.bx
  obtain ⟨d0, d1, d2, g0, g1, g2⟩ := T2.out.by'
  go_wp2_with fail
  clear c0 c1 c2 f0 f1 f2 d0 d1 d2 g0 g1 g2
  refine (window_any a n cap zs p inc HG.out a2 n2 cap2 ys q jnc HK.out m L G HW.out.1 HW.out.2.1 HW.out.2.2 _ T2.out.rx T2.out.ry).mono ?_
  rintro e w4 ⟨rfl, hb⟩
  have T4 := Lib.hid (T2.out.under hb)
  have HB4 := Lib.hid (HB2.out.trans (hb.mono HB2.out.size))
  clear hb T2 HB2
  go_wp2_with fail
  go_loopw [10] (fun s10 wx => ∃ j : Nat, s10 = .int .i64 j ∧ j ≤ M ∧ Hid (∀ u, u < j → dC zs p inc ys q jnc u ≤ 0) ∧ Hid (Below w4.heap.size w4 wx)) (fun s10 _ => M - (intOf s10).toNat)
  case atStart => exact ⟨0, by go_num, by omega, fun u hu => absurd hu (Nat.not_lt_zero _), Below.refl _ _⟩
  case round =>
    obtain ⟨j, rfl, hj, HU, HX⟩ := hrel
    obtain ⟨w5, rfl⟩ : ∃ u : World, u = wr := ⟨_, rfl⟩
    have T5 := Lib.hid (T4.out.under HX.out)
    obtain ⟨c0, c1, c2, f0, f1, f2⟩ := T5.out.bx
    obtain ⟨d0, d1, d2, g0, g1, g2⟩ := T5.out.by'
    by_cases hlt : j < M
    · have hlt' : (j : Int) < (M : Int) := by omega
      obtain ⟨v, hv⟩ : ∃ v, abV (atC zs p inc j) (atC ys q jnc j) = v := ⟨_, rfl⟩
      have hsg := ab_sign HG.out HK.out (t := j) (by omega)
      rw [hv] at hsg
      have HV := Lib.hid hv
      have HS := Lib.hid hsg
      clear hv hsg
      go_wp2_with fail
      clear c0 c1 c2 f0 f1 f2 d0 d1 d2 g0 g1 g2
      refine (above_at a n cap zs p inc HG.out a2 n2 cap2 ys q jnc HK.out j j rfl (by omega) v HV.out _ T5.out.rx T5.out.ry).mono ?_
      rintro e w6 ⟨rfl, hb⟩
      have HX2 := Lib.hid (HX.out.trans (hb.mono HX.out.size))
      clear hb
      by_cases hpos : 0 < v
      · go_wp2_with fail
        obtain ⟨rfl, rfl⟩ := HE.out.unique (.inl ⟨rfl, j, rfl, HS.out.1 hpos, HU.out⟩)
        exact bodyPost_ret (v := .tuple #[.int .i64 j, .bool true, .int .i64 0]) (by simp [results, Try.results182, go_sem]) rfl ⟨rfl, HB4.out.trans (HX2.out.mono HB4.out.size)⟩
      · have hpos' : v ≤ 0 := by omega
        go_wp2_with fail
        exact ⟨⟨j + 1, by go_num, by omega, fun u hu => by
          by_cases he : u = j
          · subst he; have := HS.out; omega
          · exact HU.out u (by omega), HX2⟩, by simp [intOf]; omega⟩
    · have hjM : j = M := by omega
      have hlt' : ¬ (j : Int) < (M : Int) := by omega
      have hall : ∀ u, u < m + L → dC zs p inc ys q jnc u ≤ 0 := fun u hu => HU.out u (by have := HMM.out; omega)
      have HA := Lib.hid hall
      clear hall
      go_wp2_with fail
      clear c0 c1 c2 f0 f1 f2 d0 d1 d2 g0 g1 g2
      refine (rfinite_any a n cap zs p inc ⟨by omega, by omega⟩ ⟨by omega, by omega⟩ b1 HB12.out.1 _ T5.out.rx).mono ?_
      rintro e w6 ⟨rfl, hb⟩
      have T6 := Lib.hid (T5.out.under hb)
      have HX6 := Lib.hid (HX.out.trans (hb.mono HX.out.size))
      clear hb T5 HX
      cases b1 with
      | false =>
        have hc0 : c ≤ 0 := by rcases HCB.out with hh | hh <;> simp at hh <;> omega
        have HC0 := Lib.hid hc0
        clear hc0
        go_wp2_with fail
        obtain ⟨rfl, rfl⟩ := HE.out.unique (exc_none HP.out hL1 HC0.out HA.out)
        exact bodyPost_ret (v := .tuple #[.int .i64 0, .bool false, .int .i64 0]) (by simp [results, Try.results182, go_sem]) rfl ⟨rfl, HB4.out.trans (HX6.out.mono HB4.out.size)⟩
      | true =>
        obtain ⟨d0, d1, d2, g0, g1, g2⟩ := T6.out.by'
        go_wp2_with fail
        clear d0 d1 d2 g0 g1 g2
        refine (rfinite_any a2 n2 cap2 ys q jnc ⟨by omega, by omega⟩ ⟨by omega, by omega⟩ b2 HB12.out.2 _ T6.out.ry).mono ?_
        rintro e w7 ⟨rfl, hb⟩
        have T7 := Lib.hid (T6.out.under hb)
        have HX7 := Lib.hid (HX6.out.trans (hb.mono HX6.out.size))
        clear hb T6 HX6
        cases b2 with
        | false =>
          have hc0 : c ≤ 0 := by rcases HCB.out with hh | hh <;> simp at hh <;> omega
          have HC0 := Lib.hid hc0
          clear hc0
          go_wp2_with fail
          obtain ⟨rfl, rfl⟩ := HE.out.unique (exc_none HP.out hL1 HC0.out HA.out)
          exact bodyPost_ret (v := .tuple #[.int .i64 0, .bool false, .int .i64 0]) (by simp [results, Try.results182, go_sem]) rfl ⟨rfl, HB4.out.trans (HX7.out.mono HB4.out.size)⟩
        | true =>
          have hcG : c = G := by rcases HCB.out with hh | hh <;> simp at hh <;> omega
          subst hcG
          by_cases hc0 : c ≤ 0
          · go_wp2_with fail
            obtain ⟨rfl, rfl⟩ := HE.out.unique (exc_none HP.out hL1 hc0 HA.out)
            exact bodyPost_ret (v := .tuple #[.int .i64 0, .bool false, .int .i64 0]) (by simp [results, Try.results182, go_sem]) rfl ⟨rfl, HB4.out.trans (HX7.out.mono HB4.out.size)⟩
          · have hc1 : 0 < c := by omega
            have HFI := Lib.hid (And.intro HFF.out.1.get HFF.out.2.get)
            go_wp2_with fail
            go_loopw [11, 12] (fun s11 s12 wx => ∃ (r j : Nat) (x : Int), s12 = .int .i64 j ∧ j = m + r ∧ s11 = .int .i64 x ∧ r ≤ L ∧ Hid (MinJ (dC zs p inc ys q jnc) m L c r x) ∧ (-1 ≤ x ∧ x ≤ 9223372036854775807) ∧ Hid (Below w7.heap.size w7 wx)) (fun _ s12 _ => M - (intOf s12).toNat)
            case atStart => exact ⟨0, m, -1, rfl, rfl, rfl, by omega, .inl ⟨rfl, rfl⟩, ⟨by omega, by omega⟩, Below.refl _ _⟩
            case round =>
              obtain ⟨r, j, x, rfl, hjr, rfl, hr, HMJ, ⟨hx0, hx1⟩, HY⟩ := hrel
              obtain ⟨w8, rfl⟩ : ∃ u : World, u = wr := ⟨_, rfl⟩
              have T8 := Lib.hid (T7.out.under HY.out)
              obtain ⟨c0, c1, c2, f0, f1, f2⟩ := T8.out.bx
              obtain ⟨d0, d1, d2, g0, g1, g2⟩ := T8.out.by'
              by_cases hlt2 : r < L
              · have hlt3 : (j : Int) < (M : Int) := by have := HMM.out; omega
                obtain ⟨v, hv⟩ : ∃ v, abV (atC zs p inc j) (atC ys q jnc j) = v := ⟨_, rfl⟩
                have hdv : dC zs p inc ys q jnc (m + r) = v := by rw [← hjr, ← hv, ab_exact HG.out HK.out HFI.out.1 HFI.out.2 (by have := HMM.out; omega)]
                have hv0 : v ≤ 0 := by have := HA.out (m + r) (by omega); omega
                have hvb2 : -(1073741824 * 20000) ≤ v := by
                  rw [← hdv, dC_fin HFI.out.1 HFI.out.2]
                  have h6 := (HK.out.bd HFI.out.2 (m + r)).2
                  have h7 := HG.out.nonneg (m + r)
                  omega
                have HV := Lib.hid hv
                obtain ⟨d, hd⟩ : ∃ d, -v / c = d := ⟨_, rfl⟩
                have hd0' : 0 ≤ d := by rw [← hd]; exact Int.ediv_nonneg (by omega) (by omega)
                have hd1' : d ≤ -v := by rw [← hd]; exact Int.ediv_le_self _ (by omega)
                have q1 : IntKind.i64.wrap (-v) = -v := IntWalk.i64_in _ ⟨by omega, by omega⟩
                have q2 : (-v).tdiv c = d := by rw [Int.tdiv_eq_ediv_of_nonneg (by omega)]; exact hd
                obtain ⟨P, hP⟩ : ∃ P, (d + 1) * (L : Int) = P := ⟨_, rfl⟩
                have hPb : 0 ≤ P ∧ P ≤ (1073741824 * 20000 + 1) * 14400 := by
                  rw [← hP]; exact ⟨Int.mul_nonneg (by omega) (by omega), Int.mul_le_mul (by omega) (by omega) (by omega) (by omega)⟩
                obtain ⟨hPb0, hPb1⟩ := hPb
                have q6 : IntKind.i64.wrap ((d + 1) * (L : Int)) = P := by rw [hP]; exact IntWalk.i64_in _ ⟨by omega, by omega⟩
                have hfar : farT (dC zs p inc ys q jnc) m L c r = (j : Int) + P := by unfold farT; rw [hdv, hd, hP, ← hjr]
                have HF := Lib.hid hfar
                have HJR := Lib.hid hjr
                have hjb : j ≤ 20000 := by have := HMM.out; omega
                have q5 : ¬ c = 0 := by omega
                clear hv hdv hP hfar hjr
                go_wp2_with fail
                clear c0 c1 c2 f0 f1 f2 d0 d1 d2 g0 g1 g2
                refine (above_at a n cap zs p inc HG.out a2 n2 cap2 ys q jnc HK.out j j rfl (by omega) v HV.out _ T8.out.rx T8.out.ry).mono ?_
                rintro e w9 ⟨rfl, hb⟩
                have HY2 := Lib.hid (HY.out.trans (hb.mono HY.out.size))
                clear hb
                by_cases hx : x < 0
                · go_wp2_with fail
                  exact ⟨⟨r + 1, j + 1, (j : Int) + P, by go_num, by have := HJR.out; omega, rfl, by omega, HMJ.out.first HF.out hx, ⟨by omega, by omega⟩, HY2⟩, by simp [intOf]; omega⟩
                · by_cases hxx : (j : Int) + P < x
                  · go_wp2_with fail
                    exact ⟨⟨r + 1, j + 1, (j : Int) + P, by go_num, by have := HJR.out; omega, rfl, by omega, HMJ.out.step HF.out (by omega) (by omega), ⟨by omega, by omega⟩, HY2⟩, by simp [intOf]; omega⟩
                  · go_wp2_with fail
                    exact ⟨⟨r + 1, j + 1, x, by go_num, by have := HJR.out; omega, rfl, by omega, HMJ.out.step HF.out (by omega) (by omega), ⟨by omega, by omega⟩, HY2⟩, by simp [intOf]; omega⟩
              · obtain rfl : r = L := by omega
                have hlt4 : ¬ (j : Int) < (M : Int) := by have := HMM.out; omega
                obtain ⟨e1, e2⟩ := HMJ.out.last hL1
                go_wp2_with fail
                obtain ⟨rfl, rfl⟩ := HE.out.unique (exc_far HP.out hL1 hc1 HA.out x e1 e2)
                exact bodyPost_ret (v := .tuple #[.int .i64 t, .bool true, .int .i64 0]) (by simp [results, Try.results182, go_sem]) rfl ⟨rfl, HB4.out.trans ((HX7.out.trans (HY.out.mono HX7.out.size)).mono HB4.out.size)⟩
end
end Go.Proofs.Ythljhddnfflpjaa

namespace Go.Proofs.Ythljhddnfflpjaa
open Go.RowKit
set_option linter.unusedSimpArgs false

section
variable (a : Option Addr) (n cap : Nat) (zs : List Int) (p : Nat) (inc : Int) (g : Good zs p inc) (a2 : Option Addr) (n2 cap2 : Nat) (ys : List Int) (q : Nat) (jnc : Int) (k : Good ys q jnc) (t : Int) (ok : Bool)
    (w : World) (h : RowZ w a n cap zs) (h2 : RowZ w a2 n2 cap2 ys)
include g k h h2

set_option maxHeartbeats 1600000 in
theorem ratMost_ok (hE : ExcP (dC zs p inc ys q jnc) t ok) : Calls Try.prog 82 #[curV a n cap p inc, curV a2 n2 cap2 q jnc] w (Says (.bool (!ok)) w) := by
  have hB := two_boxes w (.cells #[.slice a n cap, .int .i64 p, .int .i64 inc] 24) (.cells #[.slice a2 n2 cap2, .int .i64 q, .int .i64 jnc] 24)
  have HBl := Lib.hid hB
  have T0 := Lib.hid (show Two ((w.alloc (.cells #[.slice a n cap, .int .i64 p, .int .i64 inc] 24)).alloc (.cells #[.slice a2 n2 cap2, .int .i64 q, .int .i64 jnc] 24)) w.heap.size a n cap p inc zs (w.heap.size + 1) a2 n2 cap2 q jnc ys from
    ⟨(Cur3.new w (.slice a n cap) (.int .i64 p) (.int .i64 inc) 24).alloc _, h.under hB, Cur3.new2 w _ _ _ _ _, h2.under hB⟩)
  have HG := Lib.hid g
  have HK := Lib.hid k
  have HE := Lib.hid hE
  clear h h2 hB hE g k
  go_enter Try.func82, Try.ntmps82
  go_wp2_with fail
  refine (rexceeds_ok a n cap zs p inc HG.out a2 n2 cap2 ys q jnc HK.out t ok _ T0.out.rx T0.out.ry HE.out).mono ?_
  rintro e w1 ⟨rfl, hb⟩
  have HB1 := Lib.hid (HBl.out.trans (hb.mono HBl.out.size))
  clear hb
  cases ok with
  | true =>
    go_wp2_with fail
    go_ret
    exact ⟨rfl, HB1.out⟩
  | false =>
    go_wp2_with fail
    go_ret
    exact ⟨rfl, HB1.out⟩

end
end Go.Proofs.Ythljhddnfflpjaa
