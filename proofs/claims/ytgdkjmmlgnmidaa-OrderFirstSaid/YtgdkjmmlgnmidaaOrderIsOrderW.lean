/- The walk of OrderIsOrder. By the verifier's side. -/
import Derived.Test.YtgdkjmmlgnmidaaOrderDualW
import Derived.Test.YtgdkjmmlgnmidaaCurveEqualW
import Derived.Deep.RegionHeld3
namespace Go.Proofs.Ytgdkjmmlgnmidaa
open Go.RowKit
set_option linter.unusedSimpArgs false

section
variable {zs ys xs : List Int} {p q r : Nat} {inc jnc knc : Int}
theorem dC_le (t : Nat) : dC zs p inc ys q jnc t ≤ 0 ↔ (InfC ys ∧ atC ys q jnc t = infV) ∨ (¬ (InfC zs ∧ atC zs p inc t = infV) ∧ ¬ (InfC ys ∧ atC ys q jnc t = infV) ∧ atC zs p inc t ≤ atC ys q jnc t) := by
  by_cases h1 : InfC zs ∧ atC zs p inc t = infV <;> by_cases h2 : InfC ys ∧ atC ys q jnc t = infV
  · rw [dC_both h1 h2]; exact ⟨fun _ => .inl h2, fun _ => by omega⟩
  · unfold dC; rw [if_pos h1, if_neg h2]; exact ⟨fun h => by omega, fun h => h.elim (fun k => absurd k h2) (fun k => absurd h1 k.1)⟩
  · unfold dC; rw [if_neg h1, if_pos h2]; exact ⟨fun _ => .inl h2, fun _ => by omega⟩
  · unfold dC; rw [if_neg h1, if_neg h2]; exact ⟨fun h => .inr ⟨h1, h2, by omega⟩, fun h => h.elim (fun k => absurd k h2) (fun k => by have := k.2.2; omega)⟩
theorem dC_trans {t : Nat} (h1 : dC zs p inc ys q jnc t ≤ 0) (h2 : dC ys q jnc xs r knc t ≤ 0) : dC zs p inc xs r knc t ≤ 0 := by
  rw [dC_le] at h1 h2 ⊢
  rcases h2 with h2 | ⟨a1, a2, a3⟩
  · exact .inl h2
  · rcases h1 with h1 | ⟨b1, b2, b3⟩
    · exact absurd h1 a1
    · exact .inr ⟨b1, a2, by omega⟩
theorem dC_self (zs : List Int) (p : Nat) (inc : Int) (t : Nat) : dC zs p inc zs p inc t = 0 := by
  have := dC_neg zs p inc zs p inc t; omega
theorem dC_same (g : Good zs p inc) (k : Good ys q jnc) : (∀ t, dC zs p inc ys q jnc t = 0) ↔ ∀ t, atC zs p inc t = atC ys q jnc t := by
  constructor
  · intro h t
    have ht := h t
    by_cases h1 : InfC zs ∧ atC zs p inc t = infV <;> by_cases h2 : InfC ys ∧ atC ys q jnc t = infV
    · rw [h1.2, h2.2]
    · unfold dC at ht; rw [if_pos h1, if_neg h2] at ht; omega
    · unfold dC at ht; rw [if_neg h1, if_pos h2] at ht; omega
    · unfold dC at ht; rw [if_neg h1, if_neg h2] at ht; omega
  · intro h t
    have hp1 := g.p1; have hp3 := g.p3; have hf := g.few
    have hq1 := k.p1; have hq3 := k.p3; have hkf := k.few
    have hi : InfC zs ↔ InfC ys := by
      constructor
      · intro hz; exact k.inf_at (t := zs.length - 1) (by omega) (by rw [← h, atC_inf hz (Nat.le_refl _) (by omega)])
      · intro hy; exact g.inf_at (t := ys.length - 1) (by omega) (by rw [h, atC_inf hy (Nat.le_refl _) (by omega)])
    unfold dC
    rw [← hi, ← h t]
    by_cases h1 : InfC zs ∧ atC zs p inc t = infV
    · rw [if_pos h1, if_pos h1]
    · rw [if_neg h1, if_neg h1]; omega
end

/-- b says whether d is nowhere positive. -/
def AtM (b : Bool) (d : Nat → Int) : Prop := b = true ↔ ∀ u, d u ≤ 0
theorem atM_ex (d : Nat → Int) : ∃ b, AtM b d := by
  by_cases h : ∀ u, d u ≤ 0
  · exact ⟨true, fun _ => h, fun _ => rfl⟩
  · exact ⟨false, (fun e => by cases e), fun k => absurd k h⟩
/-- What is known of a tick that Meets hands back. -/
def ZeroT (sm ok : Bool) (t : Int) : Prop := (sm = true → ok = true ∧ t = 0) ∧ (sm = false → ok = true → ¬ t = 0)

theorem atMost_at (a : Option Addr) (n cap : Nat) (zs : List Int) (p : Nat) (inc : Int) (g : Good zs p inc) (a2 : Option Addr) (n2 cap2 : Nat) (ys : List Int) (q : Nat) (jnc : Int) (k : Good ys q jnc) (b : Bool) (hb : AtM b (dC zs p inc ys q jnc))
    (w : World) (h : RowZ w a n cap zs) (h2 : RowZ w a2 n2 cap2 ys) : Calls Try.prog 18 #[curV a n cap p inc, curV a2 n2 cap2 q jnc] w (Says (.bool b) w) := by
  obtain ⟨t, ok, hE⟩ := excP_ex (dC zs p inc ys q jnc)
  have e : (!ok) = b := by
    cases ok with
    | true =>
      rcases hE with ⟨_, T, _, h3, _⟩ | ⟨h3, _⟩
      · cases b with
        | false => rfl
        | true => have := hb.1 rfl T; omega
      · cases h3
    | false =>
      rcases hE with ⟨h3, _⟩ | ⟨_, _, h3⟩
      · cases h3
      · exact (hb.2 h3).symm
  rw [← e]
  exact atMost_ok a n cap zs p inc g a2 n2 cap2 ys q jnc k t ok w h h2 hE

/-- The reader, three boxes and their lists. -/
structure Tri (w : World) (b : Nat) (a : Option Addr) (n cap F : Nat) (a1 : Option Addr) (n1 cap1 : Nat) (p inc : Int) (zs : List Int) (G : Nat) (a2 : Option Addr) (n2 cap2 : Nat) (q jnc : Int) (ys : List Int) (H : Nat) (a3 : Option Addr) (n3 cap3 : Nat) (r knc : Int) (xs : List Int) (wx : World) : Prop where
  ce : Ce w b a n cap F a1 n1 cap1 p inc zs G a2 n2 cap2 q jnc ys wx
  bh : Cur3 wx H (.slice a3 n3 cap3) (.int .i64 r) (.int .i64 knc)
  rh : RowZ wx a3 n3 cap3 xs
  hH : w.heap.size ≤ H
  hHG : ¬ H = G
  nh : ∀ x, a3 = some x → ¬ x.block = b ∧ ¬ x.block = G
section
variable {w u v : World} {b : Nat} {a : Option Addr} {n cap F : Nat} {a1 : Option Addr} {n1 cap1 : Nat} {p inc : Int} {zs : List Int} {G : Nat} {a2 : Option Addr} {n2 cap2 : Nat} {q jnc : Int} {ys : List Int} {H : Nat} {a3 : Option Addr} {n3 cap3 : Nat} {r knc : Int} {xs : List Int}
theorem Tri.call (h : Tri w b a n cap F a1 n1 cap1 p inc zs G a2 n2 cap2 q jnc ys H a3 n3 cap3 r knc xs u) (hs : SrcAt v b a n cap) (ha : Apart b u v) : Tri w b a n cap F a1 n1 cap1 p inc zs G a2 n2 cap2 q jnc ys H a3 n3 cap3 r knc xs v := by
  have h1 := h.ce.hb; have h2 := h.hH
  exact ⟨h.ce.call hs ha, h.bh.apart ha (by omega), h.rh.apart ha (fun x hx => (h.nh x hx).1), h2, h.hHG, h.nh⟩
theorem Tri.below (h : Tri w b a n cap F a1 n1 cap1 p inc zs G a2 n2 cap2 q jnc ys H a3 n3 cap3 r knc xs u) (hb : Below u.heap.size u v) : Tri w b a n cap F a1 n1 cap1 p inc zs G a2 n2 cap2 q jnc ys H a3 n3 cap3 r knc xs v :=
  ⟨h.ce.below hb, h.bh.below hb, h.rh.under hb, h.hH, h.hHG, h.nh⟩
theorem Tri.drew (h : Tri w b a n cap F a1 n1 cap1 p inc zs G a2 n2 cap2 q jnc ys H a3 n3 cap3 r knc xs u) : Tri w b a n cap F a1 n1 cap1 p inc zs G a2 n2 cap2 q jnc ys H a3 n3 cap3 r knc xs u.drew := h.below (Below.refl _ _).drew
theorem Tri.setG (h : Tri w b a n cap F a1 n1 cap1 p inc zs G a2 n2 cap2 q jnc ys H a3 n3 cap3 r knc xs u) {a4 : Option Addr} {n4 cap4 : Nat} {q' jnc' : Int} {vs : List Int} (hr : RowZ u a4 n4 cap4 vs) (hx : ∀ x, a4 = some x → ¬ x.block = b ∧ ¬ x.block = G) :
    Tri w b a n cap F a1 n1 cap1 p inc zs G a4 n4 cap4 q' jnc' vs H a3 n3 cap3 r knc xs (((u.setCell ⟨G, 0, none⟩ (.slice a4 n4 cap4)).setCell ⟨G, 1, none⟩ (.int .i64 q')).setCell ⟨G, 2, none⟩ (.int .i64 jnc')) :=
  ⟨h.ce.setG hr hx, ((h.bh.other h.hHG _ _).other h.hHG _ _).other h.hHG _ _, ((h.rh.store (fun x e _ => (h.nh x e).2) _ _).store (fun x e _ => (h.nh x e).2) _ _).store (fun x e _ => (h.nh x e).2) _ _, h.hH, h.hHG, h.nh⟩
abbrev TriS (w : World) (b : Nat) (a : Option Addr) (n cap F : Nat) (a1 : Option Addr) (n1 cap1 : Nat) (p inc : Int) (zs : List Int) (G : Nat) (a2 : Option Addr) (n2 cap2 : Nat) (q jnc : Int) (ys : List Int) (H : Nat) (a3 : Option Addr) (n3 cap3 : Nat) (r knc : Int) (xs : List Int) (wx : World) : Prop :=
  wx.cell? ⟨F, 0, none⟩ = some (.slice a1 n1 cap1) ∧ wx.cell? ⟨F, 1, none⟩ = some (.int .i64 p) ∧ wx.cell? ⟨F, 2, none⟩ = some (.int .i64 inc) ∧ Hid (Tri w b a n cap F a1 n1 cap1 p inc zs G a2 n2 cap2 q jnc ys H a3 n3 cap3 r knc xs wx)
theorem tri_s (h : Tri w b a n cap F a1 n1 cap1 p inc zs G a2 n2 cap2 q jnc ys H a3 n3 cap3 r knc xs u) : TriS w b a n cap F a1 n1 cap1 p inc zs G a2 n2 cap2 q jnc ys H a3 n3 cap3 r knc xs u := ⟨h.ce.bf.c0, h.ce.bf.c1, h.ce.bf.c2, h⟩
end

/-- Three boxes and their lists. -/
structure Three (u : World) (F : Nat) (a1 : Option Addr) (n1 cap1 : Nat) (p inc : Int) (zs : List Int) (G : Nat) (a2 : Option Addr) (n2 cap2 : Nat) (q jnc : Int) (ys : List Int) (H : Nat) (a3 : Option Addr) (n3 cap3 : Nat) (r knc : Int) (xs : List Int) : Prop where
  bf : Cur3 u F (.slice a1 n1 cap1) (.int .i64 p) (.int .i64 inc)
  rf : RowZ u a1 n1 cap1 zs
  bg : Cur3 u G (.slice a2 n2 cap2) (.int .i64 q) (.int .i64 jnc)
  rg : RowZ u a2 n2 cap2 ys
  bh : Cur3 u H (.slice a3 n3 cap3) (.int .i64 r) (.int .i64 knc)
  rh : RowZ u a3 n3 cap3 xs
abbrev ThreeS (W : World) (F : Nat) (a1 : Option Addr) (n1 cap1 : Nat) (p inc : Int) (zs : List Int) (G : Nat) (a2 : Option Addr) (n2 cap2 : Nat) (q jnc : Int) (ys : List Int) (H : Nat) (a3 : Option Addr) (n3 cap3 : Nat) (r knc : Int) (xs : List Int) (u : World) : Prop :=
  u.cell? ⟨F, 0, none⟩ = some (.slice a1 n1 cap1) ∧ u.cell? ⟨F, 1, none⟩ = some (.int .i64 p) ∧ u.cell? ⟨F, 2, none⟩ = some (.int .i64 inc) ∧
  u.cell? ⟨G, 0, none⟩ = some (.slice a2 n2 cap2) ∧ u.cell? ⟨G, 1, none⟩ = some (.int .i64 q) ∧ u.cell? ⟨G, 2, none⟩ = some (.int .i64 jnc) ∧
  u.cell? ⟨H, 0, none⟩ = some (.slice a3 n3 cap3) ∧ u.cell? ⟨H, 1, none⟩ = some (.int .i64 r) ∧ u.cell? ⟨H, 2, none⟩ = some (.int .i64 knc) ∧ Hid (Below W.heap.size W u ∧ Three u F a1 n1 cap1 p inc zs G a2 n2 cap2 q jnc ys H a3 n3 cap3 r knc xs)
section
variable {W u v : World} {F : Nat} {a1 : Option Addr} {n1 cap1 : Nat} {p inc : Int} {zs : List Int} {G : Nat} {a2 : Option Addr} {n2 cap2 : Nat} {q jnc : Int} {ys : List Int} {H : Nat} {a3 : Option Addr} {n3 cap3 : Nat} {r knc : Int} {xs : List Int}
theorem Three.under (h : Three u F a1 n1 cap1 p inc zs G a2 n2 cap2 q jnc ys H a3 n3 cap3 r knc xs) (hb : Below u.heap.size u v) : Three v F a1 n1 cap1 p inc zs G a2 n2 cap2 q jnc ys H a3 n3 cap3 r knc xs :=
  ⟨h.bf.below hb, h.rf.under hb, h.bg.below hb, h.rg.under hb, h.bh.below hb, h.rh.under hb⟩
theorem three_s (h : Three u F a1 n1 cap1 p inc zs G a2 n2 cap2 q jnc ys H a3 n3 cap3 r knc xs) (hb : Below W.heap.size W u) : ThreeS W F a1 n1 cap1 p inc zs G a2 n2 cap2 q jnc ys H a3 n3 cap3 r knc xs u :=
  ⟨h.bf.c0, h.bf.c1, h.bf.c2, h.bg.c0, h.bg.c1, h.bg.c2, h.bh.c0, h.bh.c1, h.bh.c2, hb, h⟩
theorem three_of (h : ThreeS W F a1 n1 cap1 p inc zs G a2 n2 cap2 q jnc ys H a3 n3 cap3 r knc xs u) : Three u F a1 n1 cap1 p inc zs G a2 n2 cap2 q jnc ys H a3 n3 cap3 r knc xs := h.2.2.2.2.2.2.2.2.2.out.2
theorem three_below (h : ThreeS W F a1 n1 cap1 p inc zs G a2 n2 cap2 q jnc ys H a3 n3 cap3 r knc xs u) : Below W.heap.size W u := h.2.2.2.2.2.2.2.2.2.out.1
theorem three_drew (h : Three W F a1 n1 cap1 p inc zs G a2 n2 cap2 q jnc ys H a3 n3 cap3 r knc xs) : ThreeS W F a1 n1 cap1 p inc zs G a2 n2 cap2 q jnc ys H a3 n3 cap3 r knc xs W.drew := three_s (h.under (Below.refl _ _).drew) (Below.refl _ _).drew
theorem three_call (h : ThreeS W F a1 n1 cap1 p inc zs G a2 n2 cap2 q jnc ys H a3 n3 cap3 r knc xs u) (hb : Below u.heap.size u v) : ThreeS W F a1 n1 cap1 p inc zs G a2 n2 cap2 q jnc ys H a3 n3 cap3 r knc xs v :=
  three_s ((three_of h).under hb) ((three_below h).trans (hb.mono (three_below h).size))
end

/-- How the six answers hang together. -/
theorem order_math {d e f d' : Nat → Int} (h3 : ∀ t, d t ≤ 0 → e t ≤ 0 → f t ≤ 0) (hn : ∀ t, d' t = -d t) {a b c a' sm ok : Bool} {t : Int} (ha : a = true ↔ ∀ u, d u ≤ 0) (hb : b = true ↔ ∀ u, e u ≤ 0) (hc : c = true ↔ ∀ u, f u ≤ 0) (ha' : a' = true ↔ ∀ u, d' u ≤ 0)
    (hs : sm = true ↔ ∀ u, d u = 0) (hm : MeetP d t ok) : (a = false → sm = false) ∧ (a = true → b = true → c = true) ∧ (a = true → a' = sm) ∧ (sm = true → ok = true ∧ t = 0) ∧ (sm = false → ok = true → ¬ t = 0) := by
  refine ⟨fun h => ?_, fun h k => ?_, fun h => ?_, fun h => ?_, fun h k => ?_⟩
  · cases sm with
    | false => rfl
    | true => have := ha.2 (fun u => by have := hs.1 rfl u; omega); rw [h] at this; cases this
  · exact hc.2 fun u => h3 u (ha.1 h u) (hb.1 k u)
  · cases sm with
    | true => exact ha'.2 fun u => by have := hs.1 rfl u; have := hn u; omega
    | false =>
      cases a' with
      | false => rfl
      | true =>
        have := hs.2 fun u => by have := ha.1 h u; have := ha'.1 rfl u; have := hn u; omega
        cases this
  · have h0 := hs.1 h
    rcases hm with ⟨h1, T, h2, k1, k2⟩ | ⟨_, _, k1⟩
    · refine ⟨h1, ?_⟩
      rcases k2 with k2 | k2
      · omega
      · exact absurd (h0 _) k2
    · obtain ⟨u, _, hu⟩ := k1 0
      exact absurd (h0 u) hu
  · intro ht
    rcases hm with ⟨_, T, h2, k1, _⟩ | ⟨h1, _⟩
    · have := hs.2 fun u => k1 u (by omega)
      rw [h] at this; cases this
    · rw [k] at h1; cases h1

set_option maxRecDepth 100000 in
set_option maxHeartbeats 6400000 in
theorem orderIsOrder_walk (W : World) (a : Option Addr) (n cap : Nat) (hrow : RowAt W a n cap) :
    Calls Try.prog 6 #[.slice a n cap] W fun e w' => e = .returned (.bool true) ∧ Below W.heap.size W w' := by
  have HR := Lib.hid hrow
  clear hrow
  go_enter Try.func6, Try.ntmps6
  go_wp2_with fail
  refine (new_any a n cap _ HR.out).mono ?_
  rintro e w1 ⟨rfl, hb1, hz1, ra, rn, rc, hs1⟩
  have HB1 := Lib.hid hb1
  have HS1 := Lib.hid hs1
  have Z1 := Lib.hid hz1
  clear hb1 hz1 hs1
  go_wp2_with fail
  refine (curve_any 4 (by omega) (by omega) _ ra rn rc _ HS1.out).mono ?_
  rintro e w2 ⟨a1, n1, cap1, zs, p, inc, rfl, hs2, he2, hr2, ok, hx2⟩
  have OK := Lib.hid ok
  have HS2 := Lib.hid hs2
  have HR2 := Lib.hid hr2
  have HX2 := Lib.hid (show ∀ x, a1 = some x → ¬ x.block = W.heap.size from fun x hx => by have := hx2 x hx; have := Z1.out; omega)
  have HB2 := Lib.hid (HB1.out.trans (he2.below (Nat.le_refl _) HB1.out.size))
  have hsz2 := Lib.hid he2.size
  clear hs2 he2 hr2 ok hx2
  go_wp2_with fail
  refine (curve_any 4 (by omega) (by omega) _ ra rn rc _ HS2.out).mono ?_
  rintro e w3 ⟨a2, n2, cap2, ys, q, jnc, rfl, hs3, he3, hr3, ok3, hx3⟩
  have OK3 := Lib.hid ok3
  have HS3 := Lib.hid hs3
  have HR2' := Lib.hid (HR2.out.apart he3 HX2.out)
  have HR3 := Lib.hid hr3
  have HX3 := Lib.hid (show ∀ x, a2 = some x → ¬ x.block = W.heap.size from fun x hx => by have := hx3 x hx; have := hsz2.out; have := Z1.out; omega)
  have HB3 := Lib.hid (HB2.out.trans (he3.below (Nat.le_refl _) HB2.out.size))
  have hsz3 := Lib.hid (Nat.le_trans hsz2.out he3.size)
  clear hs3 he3 hr3 ok3 hx3 HR2
  go_wp2_with fail
  refine (curve_any 4 (by omega) (by omega) _ ra rn rc _ HS3.out).mono ?_
  rintro e w4 ⟨a3, n3, cap3, xs, r, knc, rfl, hs4, he4, hr4, ok4, hx4⟩
  have HG4 := Lib.hid ok4.good
  have HB4 := Lib.hid (HB3.out.trans (he4.below (Nat.le_refl _) HB3.out.size))
  have hn1 : 1 ≤ n1 := by have := ok_pos OK.out; have := HR2'.out.len; omega
  have hn2 : 1 ≤ n2 := by have := ok_pos OK3.out; have := HR3.out.len; omega
  have hn3 : 1 ≤ n3 := by have := ok_pos ok4; have := hr4.len; omega
  have R1 := HR2'.out.apart he4 HX2.out
  have R2 := HR3.out.apart he4 HX3.out
  have hxf : ∀ x, a1 = some x → ¬ x.block = W.heap.size ∧ ¬ x.block = w4.heap.size + 1 := fun x hx => ⟨HX2.out x hx, by have := row_lt R1 hn1 x hx; omega⟩
  have hxh : ∀ x, a3 = some x → ¬ x.block = W.heap.size ∧ ¬ x.block = w4.heap.size + 1 := fun x hx => ⟨by have := hx4 x hx; have := hsz3.out; have := Z1.out; omega, by have := row_lt hr4 hn3 x hx; omega⟩
  have hbl := hs4.lt
  have C5 := Lib.hid (show Tri w4 W.heap.size ra rn rc w4.heap.size a1 n1 cap1 p inc zs (w4.heap.size + 1) a2 n2 cap2 q jnc ys (w4.heap.size + 1 + 1) a3 n3 cap3 r knc xs (((w4.alloc (.cells #[.slice a1 n1 cap1, .int .i64 p, .int .i64 inc] 24)).alloc (.cells #[.slice a2 n2 cap2, .int .i64 q, .int .i64 jnc] 24)).alloc (.cells #[.slice a3 n3 cap3, .int .i64 r, .int .i64 knc] 24)) from by
    have b3 := Cur3.new ((w4.alloc (.cells #[.slice a1 n1 cap1, .int .i64 p, .int .i64 inc] 24)).alloc (.cells #[.slice a2 n2 cap2, .int .i64 q, .int .i64 jnc] 24)) (.slice a3 n3 cap3) (.int .i64 r) (.int .i64 knc) 24
    rw [show ((w4.alloc (.cells #[.slice a1 n1 cap1, .int .i64 p, .int .i64 inc] 24)).alloc (.cells #[.slice a2 n2 cap2, .int .i64 q, .int .i64 jnc] 24)).heap.size = w4.heap.size + 1 + 1 by simp] at b3
    exact ⟨⟨(((Held.start hs4).alloc _).alloc _).alloc _, ((Cur3.new w4 _ _ _ _).alloc _).alloc _, ((R1.alloc _).alloc _).alloc _, (Cur3.new2 w4 _ _ _ _ _).alloc _, ((R2.alloc _).alloc _).alloc _, hbl, Nat.le_refl _, Nat.le_succ _, by omega, hxf, HX3.out⟩, b3, ((hr4.alloc _).alloc _).alloc _, by omega, by omega, hxh⟩)
  have HS4 := Lib.hid hs4
  have G5 := Lib.hid OK3.out.good
  have hn16 : n1 ≤ 16 := by have := OK.out.few; have := R1.len; omega
  have hp8 := OK.out.p8
  have hp1 := OK.out.good.p1
  have HXF := Lib.hid hxf
  clear hs4 he4 hr4 ok4 hx4 hxf hxh hbl R1 R2
  go_wp2_with fail
  generalize ((w4.alloc (.cells #[.slice a1 n1 cap1, .int .i64 p, .int .i64 inc] 24)).alloc (.cells #[.slice a2 n2 cap2, .int .i64 q, .int .i64 jnc] 24)).alloc (.cells #[.slice a3 n3 cap3, .int .i64 r, .int .i64 knc] 24) = w5 at C5 ⊢
  refine (n_any 3 (by omega) (by omega) W.heap.size ra rn rc _ (C5.out.ce.held.at HS4.out)).mono ?_
  rintro e w6 ⟨m, hm, rfl, hs, he⟩
  have C6 := Lib.hid (C5.out.call hs he.apart)
  clear hs he hm C5
  go_upto_if 24 with fail
  go_cut [] (fun wx => ∃ (a2 : Option Addr) (n2 cap2 q : Nat) (jnc : Int) (ys : List Int), Hid (Good ys q jnc) ∧ Hid (Tri w4 W.heap.size ra rn rc w4.heap.size a1 n1 cap1 p inc zs (w4.heap.size + 1) a2 n2 cap2 q jnc ys (w4.heap.size + 1 + 1) a3 n3 cap3 r knc xs wx))
  case first =>
    by_cases hr0 : m = 0
    · have t0 : (m == 0) = true := by simpa using hr0
      clear hr0
      obtain ⟨c0, c1, c2, f0, f1, f2⟩ := C6.out.ce.bf
      go_wp2_with fail
      clear c0 c1 c2 f0 f1 f2
      refine wp_region_keeps (fun u => TriS w4 W.heap.size ra rn rc w4.heap.size a1 n1 cap1 p inc zs (w4.heap.size + 1) a2 n2 cap2 q jnc ys (w4.heap.size + 1 + 1) a3 n3 cap3 r knc xs u) 7 1 (by kernel_rfl) (by kernel_rfl) (tri_s C6.out.drew) (fun hHeld => ?_)
      refine wpAnyK_take (i := 0) (v := ?_) rfl (by kernel_rfl) (fun _ _ _ h => h) (Or.inl ⟨by rfl, ?_⟩) (by assumption) ?_
      rotate_left
      · (intro w hSw; (try dsimp only at hSw); go_simp; try with_reducible rfl)
      try simp only [Act.put, List.setIfInBounds_toArray, List.set_cons_zero, List.set_cons_succ]
      refine wpAnyK_take (i := 1) (v := ?_) rfl (by kernel_rfl) (fun _ _ _ h => h) (Or.inl ⟨by rfl, ?_⟩) (by assumption) ?_
      rotate_left
      · (intro w hSw; (try dsimp only at hSw); go_simp; try with_reducible rfl)
      try simp only [Act.put, List.setIfInBounds_toArray, List.set_cons_zero, List.set_cons_succ]
      refine wpAnyK_take (i := 3) (v := ?_) rfl (by kernel_rfl) (fun _ _ _ h => h) (Or.inl ⟨by rfl, ?_⟩) (by assumption) ?_
      rotate_left
      · (intro w hSw; (try dsimp only at hSw); go_simp; try with_reducible rfl)
      try simp only [Act.put, List.setIfInBounds_toArray, List.set_cons_zero, List.set_cons_succ]
      refine wpAnyK_step (i := 2) rfl (by kernel_rfl) (fun K hK => ?_)
      go_simp
      refine (n_any 4 (by omega) (by omega) W.heap.size ra rn rc _ (C6.out.drew.ce.held.at HS4.out)).mono ?_
      rintro e w7 ⟨m1, ⟨hm0, hm1⟩, rfl, hs, he⟩
      have C7 := Lib.hid (C6.out.drew.call hs he.apart)
      clear hs he
      refine hK.out _ _ (tri_s C7.out) (fun hHeld2 => ?_)
      clear hK K hHeld
      try simp only [Act.put, List.setIfInBounds_toArray, List.set_cons_zero, List.set_cons_succ]
      refine wpAnyK_step (i := 4) rfl (by kernel_rfl) (fun K hK => ?_)
      go_simp
      refine (n_any 3 (by omega) (by omega) W.heap.size ra rn rc _ (C7.out.ce.held.at HS4.out)).mono ?_
      rintro e w8 ⟨m2, ⟨hm2, hm3⟩, rfl, hs, he⟩
      have C8 := Lib.hid (C7.out.call hs he.apart)
      have hmw : IntKind.i64.wrap (1 + m2) = 1 + m2 := IntWalk.i64_in _ ⟨by omega, by omega⟩
      clear hs he
      refine hK.out _ _ (tri_s C8.out) (fun hHeld3 => ?_)
      clear hK K hHeld2
      try simp only [Act.put, List.setIfInBounds_toArray, List.set_cons_zero, List.set_cons_succ]
      refine wpAnyK_take (i := 5) (v := ?_) rfl (by kernel_rfl) (fun _ _ _ h => h) (Or.inl ⟨by rfl, ?_⟩) (by assumption) ?_
      rotate_left
      · (intro w hSw; (try dsimp only at hSw); go_simp; try with_reducible rfl)
      try simp only [Act.put, List.setIfInBounds_toArray, List.set_cons_zero, List.set_cons_succ]
      refine wpAnyK_step (i := 6) rfl (by kernel_rfl) (fun K hK => ?_)
      go_simp
      refine (longer_same (by omega) a1 n1 cap1 zs p inc OK.out m1 (1 + m2) (by omega) (by omega) (by omega) (by omega) _ C8.out.ce.rf).mono ?_
      rintro e w9 ⟨a4, n4, cap4, vs, p3, inc3, rfl, hb3, hr3, hg3, hv3, hn4, hp3, hloc⟩
      have C9 := Lib.hid (C8.out.below hb3)
      have hx9 : ∀ x, a4 = some x → ¬ x.block = W.heap.size ∧ ¬ x.block = w4.heap.size + 1 := fun x hx => by
        rcases hloc with e | e
        · exact HXF.out x (by rw [← e]; exact hx)
        · have h1 := e x hx
          have h2 := C8.out.ce.bg.lt
          have h3 := C8.out.ce.held.lt
          exact ⟨by omega, by omega⟩
      have C10 := Lib.hid (C9.out.setG (q' := p3) (jnc' := inc3) hr3 hx9)
      have HG3 := Lib.hid hg3
      refine hK.out _ _ (tri_s C9.out) (fun hHeld4 => ?_)
      clear hK K hHeld3 hr3 hb3 hg3 hv3 hloc hx9
      try simp only [Act.put, List.setIfInBounds_toArray, List.set_cons_zero, List.set_cons_succ]
      refine wpAnyK_done (by kernel_rfl) ?_
      simp only [List.drop_succ_cons, List.drop_zero]
      clear hHeld4
      obtain ⟨d0, d1, d2, g0, g1, g2⟩ := C9.out.ce.bg
      go_wp2_with fail
      go_meet
      exact ⟨a4, n4, cap4, p3, inc3, vs, HG3, C10⟩
    · have t0 : (m == 0) = false := by simpa using hr0
      clear hr0
      go_wp2_with fail
      go_meet
      exact ⟨a2, n2, cap2, q, jnc, ys, G5, C6⟩
  case rest =>
    clear C6 G5 hn2
    obtain ⟨a2, n2, cap2, q, jnc, ys, HK, C7⟩ := hcut
    obtain ⟨w7, rfl⟩ : ∃ u : World, u = wc := ⟨_, rfl⟩
    have HG := Lib.hid OK.out.good
    have T7 := Lib.hid (show Three w7 w4.heap.size a1 n1 cap1 p inc zs (w4.heap.size + 1) a2 n2 cap2 q jnc ys (w4.heap.size + 1 + 1) a3 n3 cap3 r knc xs from ⟨C7.out.ce.bf, C7.out.ce.rf, C7.out.ce.bg, C7.out.ce.rg, C7.out.bh, C7.out.rh⟩)
    have HB7 := Lib.hid (HB4.out.trans (C7.out.ce.held.ap.below (Nat.le_refl _) HB4.out.size))
    obtain ⟨ba, hba⟩ := atM_ex (dC zs p inc ys q jnc)
    obtain ⟨bb, hbb⟩ := atM_ex (dC ys q jnc xs r knc)
    obtain ⟨bc, hbc⟩ := atM_ex (dC zs p inc xs r knc)
    obtain ⟨ba', hba'⟩ := atM_ex (dC ys q jnc zs p inc)
    obtain ⟨t, ok, hm⟩ := meetP_ex (dC zs p inc ys q jnc)
    have KA := Lib.hid hba
    have KB := Lib.hid hbb
    have KC := Lib.hid hbc
    have KA' := Lib.hid hba'
    have KM := Lib.hid hm
    clear hba hbb hbc hba' hm C7 OK OK3 HXF hn16 hp8 hp1 hn1 hn3 HB4
    go_upto_region 5 with fail
    go_region_held3 (fun u => ThreeS w7 w4.heap.size a1 n1 cap1 p inc zs (w4.heap.size + 1) a2 n2 cap2 q jnc ys (w4.heap.size + 1 + 1) a3 n3 cap3 r knc xs u)
      (first | with_reducible exact three_drew T7.out | with_reducible exact three_call (by assumption) hbx)
      (first
        | (go_at_call 18; ((with_reducible refine (atMost_at a1 n1 cap1 zs p inc HG.out a2 n2 cap2 ys q jnc HK.out ba KA.out _ (three_of (by assumption)).rf (three_of (by assumption)).rg).mono ?_); rintro e w8 ⟨rfl, hbx⟩))
        | (go_at_call 18; ((with_reducible refine (atMost_at a2 n2 cap2 ys q jnc HK.out a3 n3 cap3 xs r knc HG4.out bb KB.out _ (three_of (by assumption)).rg (three_of (by assumption)).rh).mono ?_); rintro e w9 ⟨rfl, hbx⟩))
        | (go_at_call 18; ((with_reducible refine (atMost_at a1 n1 cap1 zs p inc HG.out a3 n3 cap3 xs r knc HG4.out bc KC.out _ (three_of (by assumption)).rf (three_of (by assumption)).rh).mono ?_); rintro e w10 ⟨rfl, hbx⟩)))
    have hT : ThreeS w7 w4.heap.size a1 n1 cap1 p inc zs (w4.heap.size + 1) a2 n2 cap2 q jnc ys (w4.heap.size + 1 + 1) a3 n3 cap3 r knc xs w10 := by assumption
    have T10 := Lib.hid (three_of hT)
    have HB10 := Lib.hid (HB7.out.trans ((three_below hT).mono HB7.out.size))
    clear hT T7 HB7
    obtain ⟨c0, c1, c2, f0, f1, f2⟩ := T10.out.bf
    obtain ⟨d0, d1, d2, g0, g1, g2⟩ := T10.out.bg
    go_wp2_with fail
    clear c0 c1 c2 f0 f1 f2 d0 d1 d2 g0 g1 g2
    refine (meets_ok a1 n1 cap1 zs p inc HG.out a2 n2 cap2 ys q jnc HK.out t ok _ T10.out.rf T10.out.rg KM.out).mono ?_
    rintro e w11 ⟨rfl, hb⟩
    have T11 := Lib.hid (T10.out.under hb)
    have HB11 := Lib.hid (HB10.out.trans (hb.mono HB10.out.size))
    clear hb T10 HB10
    obtain ⟨c0, c1, c2, f0, f1, f2⟩ := T11.out.bf
    obtain ⟨d0, d1, d2, g0, g1, g2⟩ := T11.out.bg
    go_wp2_with fail
    clear c0 c1 c2 f0 f1 f2 d0 d1 d2 g0 g1 g2
    refine (equal_ok a1 n1 cap1 zs p inc HG.out a2 n2 cap2 ys q jnc HK.out _ T11.out.rf T11.out.rg).mono ?_
    rintro e w12 ⟨sm, hsm, rfl, hb⟩
    have T12 := Lib.hid (T11.out.under hb)
    have HB12 := Lib.hid (HB11.out.trans (hb.mono HB11.out.size))
    have hOM := order_math (fun t => dC_trans (zs := zs) (p := p) (inc := inc) (ys := ys) (q := q) (jnc := jnc) (xs := xs) (r := r) (knc := knc) (t := t)) (dC_neg zs p inc ys q jnc) KA.out KB.out KC.out KA'.out (hsm.trans (dC_same HG.out HK.out).symm) KM.out
    obtain ⟨k1, k2, k3, k4, k5⟩ := hOM
    have k6 : ZeroT sm ok t := ⟨k4, k5⟩
    clear k4 k5
    have KS := Lib.hid (show AtM true (dC zs p inc zs p inc) from ⟨fun _ u => by rw [dC_self]; omega, fun _ => rfl⟩)
    have KV := Lib.hid ((okC_iff zs p inc).2 HG.out)
    have ip := HG.out.p2
    have ii0 := HG.out.i0
    have ii1 := HG.out.i1
    clear hb T11 HB11 hsm
    obtain ⟨c0, c1, c2, f0, f1, f2⟩ := T12.out.bf
    go_wp2_with fail
    clear c0 c1 c2 f0 f1 f2
    refine (atMost_at a1 n1 cap1 zs p inc HG.out a1 n1 cap1 zs p inc HG.out true KS.out _ T12.out.rf T12.out.rf).mono ?_
    rintro e w13 ⟨rfl, hb⟩
    have T13 := Lib.hid (T12.out.under hb)
    have HB13 := Lib.hid (HB12.out.trans (hb.mono HB12.out.size))
    clear hb T12 HB12
    cases ba with
    | false =>
      obtain rfl := k1 rfl
      clear k1
      cases ok with
      | true =>
        have t5 : (t == 0) = false := by simpa using k6.2 rfl rfl
        clear k2 k3 k6
        obtain ⟨c0, c1, c2, f0, f1, f2⟩ := T13.out.bf
        go_wp2_with fail
        clear c0 c1 c2 f0 f1 f2
        refine (rvalid_any a1 n1 cap1 zs p inc ⟨by omega, by omega⟩ ⟨by omega, by omega⟩ true KV.out _ T13.out.rf).mono ?_
        rintro e w15 ⟨rfl, hb⟩
        have HB15 := Lib.hid (HB13.out.trans (hb.mono HB13.out.size))
        clear hb
        go_wp2_with fail
        refine (awake4 _).mono ?_
        rintro e w16 ⟨rfl, hb⟩
        have HB16 := Lib.hid (HB15.out.trans (hb.mono HB15.out.size))
        clear hb
        go_wp2_with fail
        go_ret
        exact ⟨rfl, HB16.out⟩
      | false =>
        clear k2 k3 k6
        obtain ⟨c0, c1, c2, f0, f1, f2⟩ := T13.out.bf
        go_wp2_with fail
        clear c0 c1 c2 f0 f1 f2
        refine (rvalid_any a1 n1 cap1 zs p inc ⟨by omega, by omega⟩ ⟨by omega, by omega⟩ true KV.out _ T13.out.rf).mono ?_
        rintro e w15 ⟨rfl, hb⟩
        have HB15 := Lib.hid (HB13.out.trans (hb.mono HB13.out.size))
        clear hb
        go_wp2_with fail
        refine (awake4 _).mono ?_
        rintro e w16 ⟨rfl, hb⟩
        have HB16 := Lib.hid (HB15.out.trans (hb.mono HB15.out.size))
        clear hb
        go_wp2_with fail
        go_ret
        exact ⟨rfl, HB16.out⟩
    | true =>
      have e3 := k3 rfl
      subst e3
      clear k1 k3
      cases bb with
      | true =>
        obtain rfl := k2 rfl rfl
        cases ba' with
        | true =>
          obtain ⟨rfl, rfl⟩ := k6.1 rfl
          clear k2 k6
          obtain ⟨c0, c1, c2, f0, f1, f2⟩ := T13.out.bf
          obtain ⟨d0, d1, d2, g0, g1, g2⟩ := T13.out.bg
          go_wp2_with fail
          clear c0 c1 c2 f0 f1 f2 d0 d1 d2 g0 g1 g2
          refine (atMost_at a2 n2 cap2 ys q jnc HK.out a1 n1 cap1 zs p inc HG.out true KA'.out _ T13.out.rg T13.out.rf).mono ?_
          rintro e w14 ⟨rfl, hb⟩
          have T14 := Lib.hid (T13.out.under hb)
          have HB14 := Lib.hid (HB13.out.trans (hb.mono HB13.out.size))
          clear hb T13 HB13
          obtain ⟨c0, c1, c2, f0, f1, f2⟩ := T14.out.bf
          go_wp2_with fail
          clear c0 c1 c2 f0 f1 f2
          refine (rvalid_any a1 n1 cap1 zs p inc ⟨by omega, by omega⟩ ⟨by omega, by omega⟩ true KV.out _ T14.out.rf).mono ?_
          rintro e w15 ⟨rfl, hb⟩
          have HB15 := Lib.hid (HB14.out.trans (hb.mono HB14.out.size))
          clear hb
          go_wp2_with fail
          refine (awake4 _).mono ?_
          rintro e w16 ⟨rfl, hb⟩
          have HB16 := Lib.hid (HB15.out.trans (hb.mono HB15.out.size))
          clear hb
          go_wp2_with fail
          go_ret
          exact ⟨rfl, HB16.out⟩
        | false =>
          obtain ⟨c0, c1, c2, f0, f1, f2⟩ := T13.out.bf
          obtain ⟨d0, d1, d2, g0, g1, g2⟩ := T13.out.bg
          go_wp2_with fail
          clear c0 c1 c2 f0 f1 f2 d0 d1 d2 g0 g1 g2
          refine (atMost_at a2 n2 cap2 ys q jnc HK.out a1 n1 cap1 zs p inc HG.out false KA'.out _ T13.out.rg T13.out.rf).mono ?_
          rintro e w14 ⟨rfl, hb⟩
          have T14 := Lib.hid (T13.out.under hb)
          have HB14 := Lib.hid (HB13.out.trans (hb.mono HB13.out.size))
          clear hb T13 HB13
          cases ok with
          | true =>
            have t5 : (t == 0) = false := by simpa using k6.2 rfl rfl
            clear k2 k6
            obtain ⟨c0, c1, c2, f0, f1, f2⟩ := T14.out.bf
            go_wp2_with fail
            clear c0 c1 c2 f0 f1 f2
            refine (rvalid_any a1 n1 cap1 zs p inc ⟨by omega, by omega⟩ ⟨by omega, by omega⟩ true KV.out _ T14.out.rf).mono ?_
            rintro e w15 ⟨rfl, hb⟩
            have HB15 := Lib.hid (HB14.out.trans (hb.mono HB14.out.size))
            clear hb
            go_wp2_with fail
            refine (awake4 _).mono ?_
            rintro e w16 ⟨rfl, hb⟩
            have HB16 := Lib.hid (HB15.out.trans (hb.mono HB15.out.size))
            clear hb
            go_wp2_with fail
            go_ret
            exact ⟨rfl, HB16.out⟩
          | false =>
            clear k2 k6
            obtain ⟨c0, c1, c2, f0, f1, f2⟩ := T14.out.bf
            go_wp2_with fail
            clear c0 c1 c2 f0 f1 f2
            refine (rvalid_any a1 n1 cap1 zs p inc ⟨by omega, by omega⟩ ⟨by omega, by omega⟩ true KV.out _ T14.out.rf).mono ?_
            rintro e w15 ⟨rfl, hb⟩
            have HB15 := Lib.hid (HB14.out.trans (hb.mono HB14.out.size))
            clear hb
            go_wp2_with fail
            refine (awake4 _).mono ?_
            rintro e w16 ⟨rfl, hb⟩
            have HB16 := Lib.hid (HB15.out.trans (hb.mono HB15.out.size))
            clear hb
            go_wp2_with fail
            go_ret
            exact ⟨rfl, HB16.out⟩
      | false =>
        cases ba' with
        | true =>
          obtain ⟨rfl, rfl⟩ := k6.1 rfl
          clear k2 k6
          obtain ⟨c0, c1, c2, f0, f1, f2⟩ := T13.out.bf
          obtain ⟨d0, d1, d2, g0, g1, g2⟩ := T13.out.bg
          go_wp2_with fail
          clear c0 c1 c2 f0 f1 f2 d0 d1 d2 g0 g1 g2
          refine (atMost_at a2 n2 cap2 ys q jnc HK.out a1 n1 cap1 zs p inc HG.out true KA'.out _ T13.out.rg T13.out.rf).mono ?_
          rintro e w14 ⟨rfl, hb⟩
          have T14 := Lib.hid (T13.out.under hb)
          have HB14 := Lib.hid (HB13.out.trans (hb.mono HB13.out.size))
          clear hb T13 HB13
          obtain ⟨c0, c1, c2, f0, f1, f2⟩ := T14.out.bf
          go_wp2_with fail
          clear c0 c1 c2 f0 f1 f2
          refine (rvalid_any a1 n1 cap1 zs p inc ⟨by omega, by omega⟩ ⟨by omega, by omega⟩ true KV.out _ T14.out.rf).mono ?_
          rintro e w15 ⟨rfl, hb⟩
          have HB15 := Lib.hid (HB14.out.trans (hb.mono HB14.out.size))
          clear hb
          go_wp2_with fail
          refine (awake4 _).mono ?_
          rintro e w16 ⟨rfl, hb⟩
          have HB16 := Lib.hid (HB15.out.trans (hb.mono HB15.out.size))
          clear hb
          go_wp2_with fail
          go_ret
          exact ⟨rfl, HB16.out⟩
        | false =>
          obtain ⟨c0, c1, c2, f0, f1, f2⟩ := T13.out.bf
          obtain ⟨d0, d1, d2, g0, g1, g2⟩ := T13.out.bg
          go_wp2_with fail
          clear c0 c1 c2 f0 f1 f2 d0 d1 d2 g0 g1 g2
          refine (atMost_at a2 n2 cap2 ys q jnc HK.out a1 n1 cap1 zs p inc HG.out false KA'.out _ T13.out.rg T13.out.rf).mono ?_
          rintro e w14 ⟨rfl, hb⟩
          have T14 := Lib.hid (T13.out.under hb)
          have HB14 := Lib.hid (HB13.out.trans (hb.mono HB13.out.size))
          clear hb T13 HB13
          cases ok with
          | true =>
            have t5 : (t == 0) = false := by simpa using k6.2 rfl rfl
            clear k2 k6
            obtain ⟨c0, c1, c2, f0, f1, f2⟩ := T14.out.bf
            go_wp2_with fail
            clear c0 c1 c2 f0 f1 f2
            refine (rvalid_any a1 n1 cap1 zs p inc ⟨by omega, by omega⟩ ⟨by omega, by omega⟩ true KV.out _ T14.out.rf).mono ?_
            rintro e w15 ⟨rfl, hb⟩
            have HB15 := Lib.hid (HB14.out.trans (hb.mono HB14.out.size))
            clear hb
            go_wp2_with fail
            refine (awake4 _).mono ?_
            rintro e w16 ⟨rfl, hb⟩
            have HB16 := Lib.hid (HB15.out.trans (hb.mono HB15.out.size))
            clear hb
            go_wp2_with fail
            go_ret
            exact ⟨rfl, HB16.out⟩
          | false =>
            clear k2 k6
            obtain ⟨c0, c1, c2, f0, f1, f2⟩ := T14.out.bf
            go_wp2_with fail
            clear c0 c1 c2 f0 f1 f2
            refine (rvalid_any a1 n1 cap1 zs p inc ⟨by omega, by omega⟩ ⟨by omega, by omega⟩ true KV.out _ T14.out.rf).mono ?_
            rintro e w15 ⟨rfl, hb⟩
            have HB15 := Lib.hid (HB14.out.trans (hb.mono HB14.out.size))
            clear hb
            go_wp2_with fail
            refine (awake4 _).mono ?_
            rintro e w16 ⟨rfl, hb⟩
            have HB16 := Lib.hid (HB15.out.trans (hb.mono HB15.out.size))
            clear hb
            go_wp2_with fail
            go_ret
            exact ⟨rfl, HB16.out⟩

end Go.Proofs.Ytgdkjmmlgnmidaa
