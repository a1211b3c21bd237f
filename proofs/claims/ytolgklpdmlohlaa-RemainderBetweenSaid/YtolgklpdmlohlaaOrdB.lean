/- Contracts of package order: subtract, firstPositive, settledBeforeStart. By the verifier's side. | Contracts of package order: firstPositive, settledBeforeStart. By the verifier's side. | Contracts of package order: Exceeds, AtMost, Settles, Meets. By the verifier's side. | The examples of chapter 4 (awake), and value. By the verifier's side. -/
import Derived.Test.YtolgklpdmlohlaaOrdA
import Derived.Test.YtolgklpdmlohlaaCurveEqualW
import Derived.RegionTactic
import Derived.StillTailTactics
import Derived.Test.YtolgklpdmlohlaaCurW
namespace Go.Proofs.Ytolgklpdmlohlaa
open Go.RowKit
set_option linter.unusedSimpArgs false

/-- What subtract hands back: the difference, and an error code. -/
def GivesDif (v : Value) (e : Int) (w : World) (en : Ending) (w' : World) : Prop := en = .returned (.tuple #[v, .int .i64 e]) ∧ Below w.heap.size w w'

theorem below_set9 {B : Nat} {u w : World} {b : Nat} (h : Below B u w) (hb : B ≤ b) (v0 v1 v2 v3 v4 v5 v6 v7 v8 : Value) :
    Below B u (((((((((w.setCell ⟨b, 0, none⟩ v0).setCell ⟨b, 1, none⟩ v1).setCell ⟨b, 2, none⟩ v2).setCell ⟨b, 3, none⟩ v3).setCell ⟨b, 4, none⟩ v4).setCell ⟨b, 5, none⟩ v5).setCell ⟨b, 6, none⟩ v6).setCell ⟨b, 7, none⟩ v7).setCell ⟨b, 8, none⟩ v8) :=
  ((((((((h.setCell (p := ⟨b, 0, none⟩) hb _).setCell (p := ⟨b, 1, none⟩) hb _).setCell (p := ⟨b, 2, none⟩) hb _).setCell (p := ⟨b, 3, none⟩) hb _).setCell (p := ⟨b, 4, none⟩) hb _).setCell (p := ⟨b, 5, none⟩) hb _).setCell (p := ⟨b, 6, none⟩) hb _).setCell (p := ⟨b, 7, none⟩) hb _).setCell (p := ⟨b, 8, none⟩) hb _

set_option maxRecDepth 100000 in
set_option maxHeartbeats 3200000 in
theorem sub_bad (a : Option Addr) (n cap : Nat) (zs : List Int) (p inc : Int) (hp : In64 p) (hi : In64 inc) (a2 : Option Addr) (n2 cap2 : Nat) (ys : List Int) (q jnc : Int) (hq : In64 q) (hj : In64 jnc)
    (hv : okC zs p inc = false ∨ okC ys q jnc = false) (w : World) (h : RowZ w a n cap zs) (h2 : RowZ w a2 n2 cap2 ys) :
    Calls Try.prog 58 #[curV a n cap p inc, curV a2 n2 cap2 q jnc] w (GivesDif (difV none 0 0 0 0 none 0 0 0 0 0 0 0) 1 w) := by
  have hB : Below w.heap.size w (((w.alloc (.cells #[.slice a n cap, .int .i64 p, .int .i64 inc] 24)).alloc (.cells #[.slice a2 n2 cap2, .int .i64 q, .int .i64 jnc] 24)).alloc (.cells #[.slice none 0 0, .int .i64 0, .int .i64 0, .slice none 0 0, .int .i64 0, .int .i64 0, .int .i64 0, .int .i64 0, .int .i64 0] 66)) :=
    (((Below.refl _ _).alloc (Nat.le_refl _) _).alloc (by simp) _).alloc (by simp; omega) _
  have HBl := Lib.hid hB
  have H := Lib.hid (h.under hB)
  have H2 := Lib.hid (h2.under hB)
  have KG := Lib.hid ((Cur3.new2 w (.slice a2 n2 cap2) (.int .i64 q) (.int .i64 jnc) 24 (.cells #[.slice a n cap, .int .i64 p, .int .i64 inc] 24)).alloc (.cells #[.slice none 0 0, .int .i64 0, .int .i64 0, .slice none 0 0, .int .i64 0, .int .i64 0, .int .i64 0, .int .i64 0, .int .i64 0] 66))
  have KD := Lib.hid (dif_new ((w.alloc (.cells #[.slice a n cap, .int .i64 p, .int .i64 inc] 24)).alloc (.cells #[.slice a2 n2 cap2, .int .i64 q, .int .i64 jnc] 24)) (.slice none 0 0) (.int .i64 0) (.int .i64 0) (.slice none 0 0) (.int .i64 0) (.int .i64 0) (.int .i64 0) (.int .i64 0) (.int .i64 0) 66)
  rw [show ((w.alloc (.cells #[.slice a n cap, .int .i64 p, .int .i64 inc] 24)).alloc (.cells #[.slice a2 n2 cap2, .int .i64 q, .int .i64 jnc] 24)).heap.size = w.heap.size + 1 + 1 by simp] at KD
  obtain ⟨b1, hb1⟩ : ∃ b, okC zs p inc = b := ⟨_, rfl⟩
  have V1 := Lib.hid hb1
  have HV := Lib.hid hv
  clear h h2 hB hv
  go_enter Try.func58, Try.ntmps58
  go_wp2_with fail
  generalize hw0 : (((w.alloc (.cells #[.slice a n cap, .int .i64 p, .int .i64 inc] 24)).alloc (.cells #[.slice a2 n2 cap2, .int .i64 q, .int .i64 jnc] 24)).alloc (.cells #[.slice none 0 0, .int .i64 0, .int .i64 0, .slice none 0 0, .int .i64 0, .int .i64 0, .int .i64 0, .int .i64 0, .int .i64 0] 66)) = w0 at HBl H H2 KG KD ⊢
  clear hw0
  refine (valid_any a n cap zs p inc hp hi b1 V1.out _ H.out).mono ?_
  rintro e w1 ⟨rfl, hb⟩
  have HB1 := Lib.hid (HBl.out.trans (hb.mono HBl.out.size))
  cases b1 with
  | false =>
    obtain ⟨⟨d0, d1, d2, g0, g1, g2⟩, d3, d4, d5, d6, d7, d8, g3, g4, g5, g6, g7, g8⟩ := KD.out.below hb
    go_wp2_with fail
    refine bodyPost_ret (v := .tuple #[difV none 0 0 0 0 none 0 0 0 0 0 0 0, .int .i64 1]) (by simp [results, Try.results58, go_sem, d0, d1, d2, d3, d4, d5, d6, d7, d8, g0, g1, g2, g3, g4, g5, g6, g7, g8]) rfl ⟨rfl, below_set9 HB1.out (by omega) _ _ _ _ _ _ _ _ _⟩
  | true =>
    have V2 := Lib.hid (HV.out.resolve_left (by rw [V1.out]; decide))
    obtain ⟨c0, c1, c2, f0, f1, f2⟩ := KG.out.below hb
    go_wp2_with fail
    clear c0 c1 c2 f0 f1 f2
    refine (valid_any a2 n2 cap2 ys q jnc hq hj false V2.out _ (H2.out.under hb)).mono ?_
    rintro e w2 ⟨rfl, hb2⟩
    have HB2 := Lib.hid (HB1.out.trans (hb2.mono HB1.out.size))
    obtain ⟨⟨d0, d1, d2, g0, g1, g2⟩, d3, d4, d5, d6, d7, d8, g3, g4, g5, g6, g7, g8⟩ := (KD.out.below hb).below hb2
    go_wp2_with fail
    refine bodyPost_ret (v := .tuple #[difV none 0 0 0 0 none 0 0 0 0 0 0 0, .int .i64 1]) (by simp [results, Try.results58, go_sem, d0, d1, d2, d3, d4, d5, d6, d7, d8, g0, g1, g2, g3, g4, g5, g6, g7, g8]) rfl ⟨rfl, below_set9 HB2.out (by omega) _ _ _ _ _ _ _ _ _⟩

theorem two_store {w : World} {F : Nat} {a : Option Addr} {n cap p : Nat} {inc : Int} {zs : List Int} {G : Nat} {b : Option Addr} {m cup q : Nat} {jnc : Int} {ys : List Int} (h : Two w F a n cap p inc zs G b m cup q jnc ys) {E : Nat} (hF : ¬ F = E) (hG : ¬ G = E)
    (h1 : ∀ x, a = some x → ¬ x.block = E) (h2 : ∀ x, b = some x → ¬ x.block = E) (i : Nat) (v : Value) : Two (w.setCell ⟨E, i, none⟩ v) F a n cap p inc zs G b m cup q jnc ys :=
  ⟨h.bx.other hF i v, h.rx.store (fun x hx _ => h1 x hx) i v, h.by'.other hG i v, h.ry.store (fun x hx _ => h2 x hx) i v⟩

theorem finB_of {zs : List Int} {p : Nat} {inc : Int} (g : Good zs p inc) : finB zs p inc = true ↔ ¬ InfC zs := by
  unfold finB InfC; rw [(okC_iff zs p inc).2 g]; simp

theorem growC_bool {zs ys : List Int} {p q : Nat} {inc jnc : Int} (g : Good zs p inc) (k : Good ys q jnc) {L : Nat} :
    (finB zs p inc = finB ys q jnc → growC zs p inc ys q jnc L = ((L / p : Nat) : Int) * inc - ((L / q : Nat) : Int) * jnc) ∧ (¬ finB zs p inc = finB ys q jnc → growC zs p inc ys q jnc L = 0) := by
  have h1 := finB_of g
  have h2 := finB_of k
  constructor
  · intro h
    unfold growC
    rw [if_pos]
    rw [← h, h1] at h2
    exact ⟨fun a => Classical.byContradiction fun b => h2.2 b a, fun a => Classical.byContradiction fun b => h2.1 b a⟩
  · intro h
    refine growC_inf g k (Classical.byContradiction fun hn => h ?_)
    rw [h1.2 (fun x => hn (.inl x)), h2.2 (fun x => hn (.inr x))]

set_option maxRecDepth 100000 in
set_option maxHeartbeats 6400000 in
theorem sub_ok (a : Option Addr) (n cap : Nat) (zs : List Int) (p : Nat) (inc : Int) (g : Good zs p inc) (a2 : Option Addr) (n2 cap2 : Nat) (ys : List Int) (q : Nat) (jnc : Int) (k : Good ys q jnc) (S L : Nat) (c : Int)
    (hS : max (n - p) (n2 - q) = S) (hL : p / Nat.gcd p q * q = L) (hc : growC zs p inc ys q jnc L = c) (w : World) (h : RowZ w a n cap zs) (h2 : RowZ w a2 n2 cap2 ys) :
    Calls Try.prog 58 #[curV a n cap p inc, curV a2 n2 cap2 q jnc] w (GivesDif (difV a n cap p inc a2 n2 cap2 q jnc S L c) 0 w) := by
  have hB : Below w.heap.size w (((w.alloc (.cells #[.slice a n cap, .int .i64 p, .int .i64 inc] 24)).alloc (.cells #[.slice a2 n2 cap2, .int .i64 q, .int .i64 jnc] 24)).alloc (.cells #[.slice none 0 0, .int .i64 0, .int .i64 0, .slice none 0 0, .int .i64 0, .int .i64 0, .int .i64 0, .int .i64 0, .int .i64 0] 66)) :=
    (((Below.refl _ _).alloc (Nat.le_refl _) _).alloc (by simp) _).alloc (by simp; omega) _
  have HBl := Lib.hid hB
  have T0 := Lib.hid (show Two (((w.alloc (.cells #[.slice a n cap, .int .i64 p, .int .i64 inc] 24)).alloc (.cells #[.slice a2 n2 cap2, .int .i64 q, .int .i64 jnc] 24)).alloc (.cells #[.slice none 0 0, .int .i64 0, .int .i64 0, .slice none 0 0, .int .i64 0, .int .i64 0, .int .i64 0, .int .i64 0, .int .i64 0] 66)) w.heap.size a n cap p inc zs (w.heap.size + 1) a2 n2 cap2 q jnc ys from
    ⟨((Cur3.new w (.slice a n cap) (.int .i64 p) (.int .i64 inc) 24).alloc _).alloc _, h.under hB, (Cur3.new2 w _ _ _ _ _).alloc _, h2.under hB⟩)
  have KD := Lib.hid (dif_new ((w.alloc (.cells #[.slice a n cap, .int .i64 p, .int .i64 inc] 24)).alloc (.cells #[.slice a2 n2 cap2, .int .i64 q, .int .i64 jnc] 24)) (.slice none 0 0) (.int .i64 0) (.int .i64 0) (.slice none 0 0) (.int .i64 0) (.int .i64 0) (.int .i64 0) (.int .i64 0) (.int .i64 0) 66)
  rw [show ((w.alloc (.cells #[.slice a n cap, .int .i64 p, .int .i64 inc] 24)).alloc (.cells #[.slice a2 n2 cap2, .int .i64 q, .int .i64 jnc] 24)).heap.size = w.heap.size + 1 + 1 by simp] at KD
  have V1 := Lib.hid ((okC_iff zs p inc).2 g)
  have V2 := Lib.hid ((okC_iff ys q jnc).2 k)
  have hl1 := h.len
  have hl2 := h2.len
  have hgp1 := g.p1; have hgp2 := g.p2; have hgp3 := g.p3; have hgf := g.few; have hgi0 := g.i0; have hgi1 := g.i1
  have hkp1 := k.p1; have hkp2 := k.p2; have hkp3 := k.p3; have hkf := k.few; have hki0 := k.i0; have hki1 := k.i1
  rw [hl1] at hgp3 hgf
  rw [hl2] at hkp3 hkf
  obtain ⟨s1, hs1⟩ : ∃ s, n - p = s := ⟨_, rfl⟩
  obtain ⟨s2, hs2⟩ : ∃ s, n2 - q = s := ⟨_, rfl⟩
  have q1 : (n : Int) - (p : Int) = (s1 : Int) := by omega
  have q2 : (n2 : Int) - (q : Int) = (s2 : Int) := by omega
  have hLL := lcm_of hgp1 hkp1 hL
  have hLb : L ≤ 14400 := Nat.le_trans hLL.le (Nat.mul_le_mul hgp2 hkp2)
  have HS := Lib.hid (And.intro hS (And.intro hs1 hs2))
  have HL := Lib.hid hL
  have HLL := Lib.hid hLL
  have HC := Lib.hid hc
  have HG := Lib.hid g
  have HK := Lib.hid k
  clear h h2 hB hS hs1 hs2 hL hLL hc g k hl1 hl2
  go_enter Try.func58, Try.ntmps58
  go_wp2_with fail
  generalize hw0 : (((w.alloc (.cells #[.slice a n cap, .int .i64 p, .int .i64 inc] 24)).alloc (.cells #[.slice a2 n2 cap2, .int .i64 q, .int .i64 jnc] 24)).alloc (.cells #[.slice none 0 0, .int .i64 0, .int .i64 0, .slice none 0 0, .int .i64 0, .int .i64 0, .int .i64 0, .int .i64 0, .int .i64 0] 66)) = w0 at HBl T0 KD ⊢
  clear hw0
  refine (valid_any a n cap zs p inc ⟨by omega, by omega⟩ ⟨by omega, by omega⟩ true V1.out _ T0.out.rx).mono ?_
  rintro e w1 ⟨rfl, hb⟩
  have HB1 := Lib.hid (HBl.out.trans (hb.mono HBl.out.size))
  have T1 := Lib.hid (T0.out.under hb)
  have KD1 := Lib.hid (KD.out.below hb)
  obtain ⟨c0, c1, c2, f0, f1, f2⟩ := T1.out.by'
  clear hb
  go_wp2_with fail
  clear c0 c1 c2 f0 f1 f2
  refine (valid_any a2 n2 cap2 ys q jnc ⟨by omega, by omega⟩ ⟨by omega, by omega⟩ true V2.out _ T1.out.ry).mono ?_
  rintro e w2 ⟨rfl, hb⟩
  have HB2 := Lib.hid (HB1.out.trans (hb.mono HB1.out.size))
  have T2 := Lib.hid (T1.out.under hb)
  have KD2 := Lib.hid (KD1.out.below hb)
  clear hb T0 T1 KD KD1 HBl HB1
  obtain ⟨c0, c1, c2, f0, f1, f2⟩ := T2.out.bx
  obtain ⟨d0, d1, d2, g0, g1, g2⟩ := T2.out.by'
  have hTlt := KD2.out.lt
  have hr1 : ∀ x, a = some x → ¬ x.block = w2.heap.size := fun x hx => by have := row_lt T2.out.rx (by omega) x hx; omega
  have hr2 : ∀ x, a2 = some x → ¬ x.block = w2.heap.size := fun x hx => by have := row_lt T2.out.ry (by omega) x hx; omega
  have HR := Lib.hid (And.intro hr1 hr2)
  clear hr1 hr2
  go_upto_region 4 with fail
  clear c0 c1 c2 f0 f1 f2 d0 d1 d2 g0 g1 g2
  have A3 := Lib.hid (T2.out.under (box_below w2 (.cells #[.slice a n cap, .int .i64 p, .int .i64 inc, .slice a2 n2 cap2, .int .i64 q, .int .i64 jnc, .int .i64 0, .int .i64 0, .int .i64 0] 66)))
  have D3 := Lib.hid (KD2.out.alloc (.cells #[.slice a n cap, .int .i64 p, .int .i64 inc, .slice a2 n2 cap2, .int .i64 q, .int .i64 jnc, .int .i64 0, .int .i64 0, .int .i64 0] 66))
  have E3 := Lib.hid (dif_new w2 (.slice a n cap) (.int .i64 p) (.int .i64 inc) (.slice a2 n2 cap2) (.int .i64 q) (.int .i64 jnc) (.int .i64 0) (.int .i64 0) (.int .i64 0) 66)
  have B3 := Lib.hid (HB2.out.alloc HB2.out.size (.cells #[.slice a n cap, .int .i64 p, .int .i64 inc, .slice a2 n2 cap2, .int .i64 q, .int .i64 jnc, .int .i64 0, .int .i64 0, .int .i64 0] 66))
  generalize w2.alloc (.cells #[.slice a n cap, .int .i64 p, .int .i64 inc, .slice a2 n2 cap2, .int .i64 q, .int .i64 jnc, .int .i64 0, .int .i64 0, .int .i64 0] 66) = w3 at A3 D3 E3 B3 ⊢
  obtain ⟨E, hEe⟩ : ∃ E, w2.heap.size = E := ⟨_, rfl⟩
  rw [hEe] at E3 hTlt HR ⊢
  clear hEe T2 KD2 HB2
  obtain ⟨c0, c1, c2, f0, f1, f2⟩ := A3.out.bx
  obtain ⟨d0, d1, d2, g0, g1, g2⟩ := A3.out.by'
  obtain ⟨_, _, _, _, e6, _, _, _, _, _, k6, _, _⟩ := E3.out
  go_cut [] (fun wx => Hid (Two wx w.heap.size a n cap p inc zs (w.heap.size + 1) a2 n2 cap2 q jnc ys) ∧
    Hid (Dif wx (w.heap.size + 1 + 1) (.slice none 0 0) (.int .i64 0) (.int .i64 0) (.slice none 0 0) (.int .i64 0) (.int .i64 0) (.int .i64 0) (.int .i64 0) (.int .i64 0)) ∧
    Hid (Dif wx E (.slice a n cap) (.int .i64 p) (.int .i64 inc) (.slice a2 n2 cap2) (.int .i64 q) (.int .i64 jnc) (.int .i64 S) (.int .i64 0) (.int .i64 0)) ∧ Hid (Below w.heap.size w wx))
  case first =>
    have hcmp : (s2 ≤ s1 ∧ S = s1) ∨ (s1 < s2 ∧ S = s2) := by have := HS.out.1; have := HS.out.2.1; have := HS.out.2.2; omega
    rcases hcmp with ⟨h12, hSe⟩ | ⟨h12, hSe⟩
    · have h12' : (s2 : Int) ≤ (s1 : Int) := by omega
      have hd12 : decide (s1 < s2) = false := by simp; omega
      have hd13 : ¬ s1 < s2 := by omega
      have HSE := Lib.hid hSe
      clear hSe
      go_wp2_with fail
      go_meet
      exact ⟨two_store A3.out (by omega) (by omega) HR.out.1 HR.out.2 _ _, D3.out.other (by omega) _ _, by rw [HSE.out]; exact E3.out.set6 _, B3.out.setCell (p := ⟨E, 6, none⟩) (by show w.heap.size ≤ E; omega) _⟩
    · have h12' : (s1 : Int) < (s2 : Int) := by omega
      have hd12 : decide (s1 < s2) = true := by simp; omega
      have HSE := Lib.hid hSe
      clear hSe
      go_wp2_with fail
      go_meet
      exact ⟨two_store A3.out (by omega) (by omega) HR.out.1 HR.out.2 _ _, D3.out.other (by omega) _ _, by rw [HSE.out]; exact E3.out.set6 _, B3.out.setCell (p := ⟨E, 6, none⟩) (by show w.heap.size ≤ E; omega) _⟩
  case rest =>
    clear A3 D3 E3 B3 c0 c1 c2 f0 f1 f2 d0 d1 d2 g0 g1 g2 e6 k6
    obtain ⟨T4, D4, E4, HB4⟩ := hcut
    obtain ⟨w4, rfl⟩ : ∃ u : World, u = wc := ⟨_, rfl⟩
    have HSE := Lib.hid HS.out
    obtain ⟨c0, c1, c2, f0, f1, f2⟩ := T4.out.bx
    obtain ⟨d0, d1, d2, g0, g1, g2⟩ := T4.out.by'
    go_wp2_with fail
    clear c0 c1 c2 f0 f1 f2 d0 d1 d2 g0 g1 g2
    refine (olm_at p q L HL.out hgp1 (by omega) hkp1 (by omega) _).mono ?_
    rintro e w5 ⟨rfl, hd⟩
    have T5 := Lib.hid (T4.out.under (below_dr (Below.refl _ _) hd))
    have D5 := Lib.hid (D4.out.dr hd)
    have E5 := Lib.hid (E4.out.dr hd)
    have HB5 := Lib.hid (below_dr HB4.out hd)
    clear hd T4 D4 E4 HB4
    obtain ⟨_, _, _, _, _, e7, _, _, _, _, _, k7, _⟩ := E5.out
    go_wp2_with fail
    clear e7 k7
    have T6 := Lib.hid (two_store T5.out (E := E) (by omega) (by omega) HR.out.1 HR.out.2 7 (.int .i64 L))
    have D6 := Lib.hid (D5.out.other (q := E) (by omega) 7 (.int .i64 L))
    have E6 := Lib.hid (E5.out.set7 (.int .i64 L))
    have HB6 := Lib.hid (HB5.out.setCell (p := ⟨E, 7, none⟩) (by show w.heap.size ≤ E; omega) (.int .i64 L))
    generalize w5.setCell ⟨E, 7, none⟩ (.int .i64 L) = w6 at T6 D6 E6 HB6 ⊢
    clear T5 D5 E5 HB5
    obtain ⟨b1, hb1⟩ : ∃ b, finB zs p inc = b := ⟨_, rfl⟩
    obtain ⟨b2, hb2⟩ : ∃ b, finB ys q jnc = b := ⟨_, rfl⟩
    have hgb := growC_bool HG.out HK.out (L := L)
    rw [hb1, hb2, HC.out] at hgb
    have F1 := Lib.hid hb1
    have F2 := Lib.hid hb2
    by_cases hbb : b1 = b2
    · have hcc := hgb.1 hbb
      subst hbb
      obtain ⟨lp, hlp⟩ : ∃ l, L / p = l := ⟨_, rfl⟩
      obtain ⟨lq, hlq⟩ : ∃ l, L / q = l := ⟨_, rfl⟩
      have hlp2 : lp ≤ L := by rw [← hlp]; exact Nat.div_le_self _ _
      have hlq2 : lq ≤ L := by rw [← hlq]; exact Nat.div_le_self _ _
      rw [hlp, hlq] at hcc
      obtain ⟨X1, hX1⟩ : ∃ x, (lp : Int) * inc = x := ⟨_, rfl⟩
      obtain ⟨X2, hX2⟩ : ∃ x, (lq : Int) * jnc = x := ⟨_, rfl⟩
      have hX1b : 0 ≤ X1 ∧ X1 ≤ 14400 * 1073741824 := by
        rw [← hX1]; exact ⟨Int.mul_nonneg (by omega) hgi0, Int.mul_le_mul (by omega) hgi1 hgi0 (by omega)⟩
      have hX2b : 0 ≤ X2 ∧ X2 ≤ 14400 * 1073741824 := by
        rw [← hX2]; exact ⟨Int.mul_nonneg (by omega) hki0, Int.mul_le_mul (by omega) hki1 hki0 (by omega)⟩
      rw [hX1, hX2] at hcc
      have q3 : (L : Int).tdiv (p : Int) = (lp : Int) := by rw [← hlp]; rfl
      have q4 : (L : Int).tdiv (q : Int) = (lq : Int) := by rw [← hlq]; rfl
      have q3' : (L : Int) / (p : Int) = (lp : Int) := by rw [← hlp]; rfl
      have q4' : (L : Int) / (q : Int) = (lq : Int) := by rw [← hlq]; rfl
      have q5 : IntKind.i64.wrap (lp : Int) = (lp : Int) := IntWalk.i64_in _ ⟨by omega, by omega⟩
      have q6 : IntKind.i64.wrap (lq : Int) = (lq : Int) := IntWalk.i64_in _ ⟨by omega, by omega⟩
      have q7 : IntKind.i64.wrap ((lp : Int) * inc) = X1 := by rw [hX1]; exact IntWalk.i64_in _ ⟨by omega, by omega⟩
      have q8 : IntKind.i64.wrap ((lq : Int) * jnc) = X2 := by rw [hX2]; exact IntWalk.i64_in _ ⟨by omega, by omega⟩
      have q9 : IntKind.i64.wrap (X1 - X2) = c := by rw [hcc]; exact IntWalk.i64_in _ ⟨by omega, by omega⟩
      have q10 : ¬ p = 0 := by omega
      have q11 : ¬ q = 0 := by omega
      have q12 : ¬ (p : Int) = 0 := by omega
      have q13 : ¬ (q : Int) = 0 := by omega
      clear hb1 hb2 hgb hcc hlp hlq hX1 hX2
      go_region_held3 (fun u => Two6 w6 w.heap.size a n cap p inc zs (w.heap.size + 1) a2 n2 cap2 q jnc ys u)
        (first | with_reducible exact two6_drew T6.out | with_reducible exact two6_call (by assumption) hbx)
        (first
          | (go_at_call 52; ((with_reducible refine (finite_any a n cap zs p inc ⟨by omega, by omega⟩ ⟨by omega, by omega⟩ b1 F1.out _ (two6_of (by assumption)).rx).mono ?_); rintro e w7 ⟨rfl, hbx⟩))
          | (go_at_call 52; ((with_reducible refine (finite_any a2 n2 cap2 ys q jnc ⟨by omega, by omega⟩ ⟨by omega, by omega⟩ b1 F2.out _ (two6_of (by assumption)).ry).mono ?_); rintro e w8 ⟨rfl, hbx⟩)))
      have hT : Two6 w6 w.heap.size a n cap p inc zs (w.heap.size + 1) a2 n2 cap2 q jnc ys w8 := by assumption
      have hb8 := two6_below hT
      have T8 := Lib.hid (two6_of hT)
      have D8 := Lib.hid (D6.out.below hb8)
      have E8 := Lib.hid (E6.out.below hb8)
      have HB8 := Lib.hid (HB6.out.trans (hb8.mono HB6.out.size))
      have C9 := Lib.hid q9
      clear hT hb8 T6 D6 E6 HB6
      obtain ⟨c0, c1, c2, f0, f1, f2⟩ := T8.out.bx
      obtain ⟨d0, d1, d2, g0, g1, g2⟩ := T8.out.by'
      obtain ⟨_, _, _, _, _, e7, e8, _, _, _, _, _, k8⟩ := E8.out
      go_wp2_with fail
      go_region
      clear c0 c1 c2 f0 f1 f2 d0 d1 d2 g0 g1 g2 e7 e8 k8
      have D9 := Lib.hid (((D8.out.other (q := E) (by omega) 8 (.int .i64 c))).below (Below.refl _ _).drew)
      have E9 := Lib.hid ((E8.out.set8 (.int .i64 c)).below (Below.refl _ _).drew)
      have HB9 := Lib.hid ((HB8.out.setCell (p := ⟨E, 8, none⟩) (by show w.heap.size ≤ E; omega) (.int .i64 c)).drew)
      generalize (w8.setCell ⟨E, 8, none⟩ (.int .i64 c)).drew = w9 at D9 E9 HB9 ⊢
      clear D8 E8 HB8 T8
      obtain ⟨⟨d0, d1, d2, g0, g1, g2⟩, d3, d4, d5, d6, d7, d8, g3, g4, g5, g6, g7, g8⟩ := D9.out
      obtain ⟨⟨e0, e1, e2, k0, k1, k2⟩, e3, e4, e5, e6, e7, e8, k3, k4, k5, k6, k7, k8⟩ := E9.out
      go_wp2_with fail
      refine bodyPost_ret (v := .tuple #[difV a n cap p inc a2 n2 cap2 q jnc S L c, .int .i64 0]) (by simp [results, Try.results58, go_sem, d0, d1, d2, d3, d4, d5, d6, d7, d8, g0, g1, g2, g3, g4, g5, g6, g7, g8]) rfl ⟨rfl, below_set9 HB9.out (by omega) _ _ _ _ _ _ _ _ _⟩
    · have hcc : c = 0 := hgb.2 hbb
      subst hcc
      have hbe : (b1 == b2) = false := by simpa using hbb
      clear hb1 hb2 hgb hbb
      go_region_held3 (fun u => Two6 w6 w.heap.size a n cap p inc zs (w.heap.size + 1) a2 n2 cap2 q jnc ys u)
        (first | with_reducible exact two6_drew T6.out | with_reducible exact two6_call (by assumption) hbx)
        (first
          | (go_at_call 52; ((with_reducible refine (finite_any a n cap zs p inc ⟨by omega, by omega⟩ ⟨by omega, by omega⟩ b1 F1.out _ (two6_of (by assumption)).rx).mono ?_); rintro e w7 ⟨rfl, hbx⟩))
          | (go_at_call 52; ((with_reducible refine (finite_any a2 n2 cap2 ys q jnc ⟨by omega, by omega⟩ ⟨by omega, by omega⟩ b2 F2.out _ (two6_of (by assumption)).ry).mono ?_); rintro e w8 ⟨rfl, hbx⟩)))
      have hT : Two6 w6 w.heap.size a n cap p inc zs (w.heap.size + 1) a2 n2 cap2 q jnc ys w8 := by assumption
      have hb8 := two6_below hT
      obtain ⟨⟨d0, d1, d2, g0, g1, g2⟩, d3, d4, d5, d6, d7, d8, g3, g4, g5, g6, g7, g8⟩ := D6.out.below hb8
      obtain ⟨⟨e0, e1, e2, k0, k1, k2⟩, e3, e4, e5, e6, e7, e8, k3, k4, k5, k6, k7, k8⟩ := E6.out.below hb8
      have HB8 := Lib.hid (HB6.out.trans (hb8.mono HB6.out.size))
      clear hT hb8
      go_wp2_with fail
      refine bodyPost_ret (v := .tuple #[difV a n cap p inc a2 n2 cap2 q jnc S L 0, .int .i64 0]) (by simp [results, Try.results58, go_sem, d0, d1, d2, d3, d4, d5, d6, d7, d8, g0, g1, g2, g3, g4, g5, g6, g7, g8]) rfl ⟨rfl, below_set9 HB8.out (by omega) _ _ _ _ _ _ _ _ _⟩
end Go.Proofs.Ytolgklpdmlohlaa

namespace Go.Proofs.Ytolgklpdmlohlaa
open Go.RowKit
set_option linter.unusedSimpArgs false

/-- What is known of a difference that stands in block b of a world: both lists, and the numbers. -/
structure DifOk (w : World) (a : Option Addr) (n cap : Nat) (zs : List Int) (p : Nat) (inc : Int) (a2 : Option Addr) (n2 cap2 : Nat) (ys : List Int) (q : Nat) (jnc : Int) (S L : Nat) : Prop where
  g : Good zs p inc
  k : Good ys q jnc
  r : RowZ w a n cap zs
  r2 : RowZ w a2 n2 cap2 ys
  s : max (n - p) (n2 - q) = S
  l : p / Nat.gcd p q * q = L
section
variable {w w' : World} {a : Option Addr} {n cap : Nat} {zs : List Int} {p : Nat} {inc : Int} {a2 : Option Addr} {n2 cap2 : Nat} {ys : List Int} {q : Nat} {jnc : Int} {S L : Nat}
theorem DifOk.under (h : DifOk w a n cap zs p inc a2 n2 cap2 ys q jnc S L) (hb : Below w.heap.size w w') : DifOk w' a n cap zs p inc a2 n2 cap2 ys q jnc S L := ⟨h.g, h.k, h.r.under hb, h.r2.under hb, h.s, h.l⟩
theorem DifOk.lcm (h : DifOk w a n cap zs p inc a2 n2 cap2 ys q jnc S L) : Lcm p q L := lcm_of h.g.p1 h.k.p1 h.l
theorem DifOk.small (h : DifOk w a n cap zs p inc a2 n2 cap2 ys q jnc S L) : S ≤ 400 ∧ 1 ≤ L ∧ L ≤ 14400 := by
  have h1 := h.s; have h2 := h.r.len; have h3 := h.r2.len; have h4 := h.g.few; have h5 := h.k.few
  exact ⟨by omega, h.lcm.one, Nat.le_trans h.lcm.le (Nat.mul_le_mul h.g.p2 h.k.p2)⟩
theorem DifOk.per (h : DifOk w a n cap zs p inc a2 n2 cap2 ys q jnc S L) : Per (dC zs p inc ys q jnc) S L (growC zs p inc ys q jnc L) := by
  have h1 := h.s; have h2 := h.r.len; have h3 := h.r2.len
  exact dC_per h.g h.k h.lcm (by omega) (by omega)
theorem DifOk.sign (h : DifOk w a n cap zs p inc a2 n2 cap2 ys q jnc S L) {t : Nat} (ht : t ≤ 1048576) :
    (0 < dC zs p inc ys q jnc t ↔ 0 < atC zs p inc t - atC ys q jnc t) ∧ (dC zs p inc ys q jnc t = 0 ↔ atC zs p inc t - atC ys q jnc t = 0) := by
  obtain ⟨h1, h2⟩ := dC_sign h.g h.k ht
  exact ⟨by rw [h1]; omega, by rw [h2]; omega⟩
theorem DifOk.exact (h : DifOk w a n cap zs p inc a2 n2 cap2 ys q jnc S L) (hc : ¬ growC zs p inc ys q jnc L = 0) (t : Nat) : dC zs p inc ys q jnc t = atC zs p inc t - atC ys q jnc t :=
  dC_fin (growC_ne h.g h.k hc).1 (growC_ne h.g h.k hc).2 t
end

theorem diff_at (a : Option Addr) (n cap : Nat) (zs : List Int) (p : Nat) (inc : Int) (a2 : Option Addr) (n2 cap2 : Nat) (ys : List Int) (q : Nat) (jnc : Int) (S L : Nat) (c : Int) (w : World) (h : DifOk w a n cap zs p inc a2 n2 cap2 ys q jnc S L)
    (ti : Int) (t : Nat) (hti : ti = t) (ht : t ≤ 1048576) (v : Int) (hv : atC zs p inc t - atC ys q jnc t = v) :
    Calls Try.prog 61 #[difV a n cap p inc a2 n2 cap2 q jnc S L c, .int .i64 ti] w (Says (.int .i64 v) w) :=
  dat_at a n cap zs p inc h.g a2 n2 cap2 ys q jnc h.k S L c ti t hti ht v hv w h.r h.r2

/-- The least of the ticks of all residue classes at which a growing difference is positive. -/
def LeastF (d : Nat → Int) (S L : Nat) (c : Int) (w : World) (e : Ending) (w' : World) : Prop :=
  ∃ x : Int, (∀ r, r < L → x ≤ farT d S L c r) ∧ (∃ r, r < L ∧ x = farT d S L c r) ∧ e = .returned (.int .i64 x) ∧ Below w.heap.size w w'

/-- What the loop over the residue classes has found. -/
def MinI (d : Nat → Int) (S L : Nat) (c : Int) (r : Nat) (x : Int) : Prop :=
  (r = 0 ∧ x = 9223372036854775807) ∨ ((∀ s, s < r → x ≤ farT d S L c s) ∧ ∃ s, s < r ∧ x = farT d S L c s)
theorem MinI.step {d : Nat → Int} {S L : Nat} {c : Int} {r : Nat} {x y z : Int} (h : MinI d S L c r x) (hy : farT d S L c r = y) (hy2 : y ≤ 9223372036854775807) (hz : z = min x y) : MinI d S L c (r + 1) z := by
  rcases h with ⟨rfl, rfl⟩ | ⟨h1, s, hs, rfl⟩
  · refine .inr ⟨fun s hs => ?_, 0, by omega, by omega⟩
    obtain rfl : s = 0 := by omega
    omega
  · refine .inr ⟨fun u hu => ?_, ?_⟩
    · by_cases he : u = r
      · subst he; omega
      · have := h1 u (by omega); omega
    · by_cases hle : farT d S L c s ≤ y
      · exact ⟨s, by omega, by omega⟩
      · exact ⟨r, by omega, by omega⟩

/-- The tick behind the last disturbing one before the start. -/
def LastB (f : Nat → Bool) (S : Nat) (w : World) (e : Ending) (w' : World) : Prop :=
  ∃ T : Nat, T ≤ S ∧ (∀ u, u < S → T ≤ u → f u = false) ∧ (T = 0 ∨ f (T - 1) = true) ∧ e = .returned (.int .i64 T) ∧ Below w.heap.size w w'

set_option maxRecDepth 100000 in
set_option maxHeartbeats 3200000 in
theorem settledBefore_any (fid : FuncId) (pr : Int → Bool) (eg : ∀ (args : Array Value) (w : World), (callFunc fid args).run Try.prog w = .ok (.enter fid args) w)
    (hP : ∀ (v : Int) (b : Bool) (w : World), pr v = b → Calls Try.prog fid #[.int .i64 v] w fun e w' => e = .returned (.bool b) ∧ w = w')
    (a : Option Addr) (n cap : Nat) (zs : List Int) (p : Nat) (inc : Int) (a2 : Option Addr) (n2 cap2 : Nat) (ys : List Int) (q : Nat) (jnc : Int) (S L : Nat) (c : Int) (w : World) (h : DifOk w a n cap zs p inc a2 n2 cap2 ys q jnc S L) :
    Calls Try.prog 59 #[difV a n cap p inc a2 n2 cap2 q jnc S L c, .func (.func fid) #[] #[]] w (LastB (fun u => pr (atC zs p inc u - atC ys q jnc u)) S w) := by
  have hB := box_below w (.cells #[.slice a n cap, .int .i64 p, .int .i64 inc, .slice a2 n2 cap2, .int .i64 q, .int .i64 jnc, .int .i64 S, .int .i64 L, .int .i64 c] 66)
  have HBl := Lib.hid hB
  have H := Lib.hid (h.under hB)
  have KD := Lib.hid (dif_new w (.slice a n cap) (.int .i64 p) (.int .i64 inc) (.slice a2 n2 cap2) (.int .i64 q) (.int .i64 jnc) (.int .i64 S) (.int .i64 L) (.int .i64 c) 66)
  obtain ⟨hS, hL1, hL2⟩ := h.small
  have HPR := Lib.hid hP
  clear h hB hP
  go_enter Try.func59, Try.ntmps59
  go_wp2_with fail
  generalize w.alloc (.cells #[.slice a n cap, .int .i64 p, .int .i64 inc, .slice a2 n2 cap2, .int .i64 q, .int .i64 jnc, .int .i64 S, .int .i64 L, .int .i64 c] 66) = w0 at HBl H KD ⊢
  go_loopw [5, 9] (fun s5 s9 wx => ∃ (r T : Nat), s9 = .int .i64 r ∧ s5 = .int .i64 T ∧ r ≤ S ∧ T ≤ r ∧ Hid (∀ u, u < r → T ≤ u → pr (atC zs p inc u - atC ys q jnc u) = false) ∧ Hid (T = 0 ∨ pr (atC zs p inc (T - 1) - atC ys q jnc (T - 1)) = true) ∧ Hid (Below w0.heap.size w0 wx)) (fun _ s9 _ => S - (intOf s9).toNat)
  case atStart => exact ⟨0, 0, by go_num, by go_num, by omega, by omega, fun u hu => absurd hu (Nat.not_lt_zero _), .inl rfl, Below.refl _ _⟩
  case round =>
    obtain ⟨r, T, rfl, rfl, hr, hT, HU, HT, HX⟩ := hrel
    obtain ⟨w1, rfl⟩ : ∃ u : World, u = wr := ⟨_, rfl⟩
    obtain ⟨⟨c0, c1, c2, f0, f1, f2⟩, c3, c4, c5, c6, c7, c8, f3, f4, f5, f6, f7, f8⟩ := KD.out.below HX.out
    by_cases hlt : r < S
    · have hlt' : (r : Int) < (S : Int) := by omega
      obtain ⟨v, hv⟩ : ∃ v, atC zs p inc r - atC ys q jnc r = v := ⟨_, rfl⟩
      obtain ⟨b, hb⟩ : ∃ b, pr v = b := ⟨_, rfl⟩
      have HV := Lib.hid hv
      have HB := Lib.hid hb
      have hvb : pr (atC zs p inc r - atC ys q jnc r) = b := by rw [hv, hb]
      have HVB := Lib.hid hvb
      clear hv hb hvb
      go_wp2_with fail
      clear c0 c1 c2 c3 c4 c5 c6 c7 c8 f0 f1 f2 f3 f4 f5 f6 f7 f8
      refine (diff_at a n cap zs p inc a2 n2 cap2 ys q jnc S L c _ (H.out.under HX.out) r r rfl (by omega) v HV.out).mono ?_
      rintro e w2 ⟨rfl, hb2⟩
      have HX2 := Lib.hid (HX.out.trans (hb2.mono HX.out.size))
      clear hb2
      obtain ⟨⟨c0, c1, c2, f0, f1, f2⟩, c3, c4, c5, c6, c7, c8, f3, f4, f5, f6, f7, f8⟩ := KD.out.below HX2.out
      go_wp2_with fail
      refine (HPR.out v b _ HB.out).mono ?_
      rintro e w3 ⟨rfl, rfl⟩
      cases b with
      | true =>
        go_wp2_with fail
        exact ⟨⟨r + 1, r + 1, by go_num, by go_num, by omega, by omega, fun u hu hu2 => by omega, .inr HVB.out, HX2⟩, by simp [intOf]; omega⟩
      | false =>
        go_wp2_with fail
        exact ⟨⟨r + 1, T, by go_num, rfl, by omega, by omega, fun u hu hu2 => by
          by_cases he : u = r
          · subst he; exact HVB.out
          · exact HU.out u (by omega) hu2, HT, HX2⟩, by simp [intOf]; omega⟩
    · obtain rfl : r = S := by omega
      have hlt' : ¬ (r : Int) < (r : Int) := by omega
      go_wp2_with fail
      go_ret
      exact ⟨T, hT, HU.out, HT.out, rfl, HBl.out.trans (HX.out.mono HBl.out.size)⟩

theorem settles1_any (v : Int) (b : Bool) (w : World) (hb : decide (0 < v) = b) : Calls Try.prog 60 #[.int .i64 v] w fun e w' => e = .returned (.bool b) ∧ w = w' := by
  go_enter Try.func60, Try.ntmps60
  go_wp2
  go_ret
  exact ⟨rfl, rfl⟩
end Go.Proofs.Ytolgklpdmlohlaa

namespace Go.Proofs.Ytolgklpdmlohlaa
open Go.RowKit
set_option linter.unusedSimpArgs false

/-- A tick, whether there is one, and an error code. -/
def Tick3 (t : Int) (ok : Bool) (e : Int) (w : World) (en : Ending) (w' : World) : Prop := en = .returned (.tuple #[.int .i64 t, .bool ok, .int .i64 e]) ∧ Below w.heap.size w w'

section
variable (a : Option Addr) (n cap : Nat) (zs : List Int) (p inc : Int) (hp : In64 p) (hi : In64 inc) (a2 : Option Addr) (n2 cap2 : Nat) (ys : List Int) (q jnc : Int) (hq : In64 q) (hj : In64 jnc)
    (hv : okC zs p inc = false ∨ okC ys q jnc = false) (w : World) (h : RowZ w a n cap zs) (h2 : RowZ w a2 n2 cap2 ys)
theorem two_boxes (w : World) (o o2 : Obj) : Below w.heap.size w ((w.alloc o).alloc o2) := ((Below.refl _ _).alloc (Nat.le_refl _) _).alloc (by simp) _

include hp hi hq hj hv h h2
set_option maxHeartbeats 1600000 in
theorem settles_bad : Calls Try.prog 41 #[curV a n cap p inc, curV a2 n2 cap2 q jnc] w (Tick3 0 false 1 w) := by
  have hB := two_boxes w (.cells #[.slice a n cap, .int .i64 p, .int .i64 inc] 24) (.cells #[.slice a2 n2 cap2, .int .i64 q, .int .i64 jnc] 24)
  have HBl := Lib.hid hB
  have H := Lib.hid (h.under hB)
  have H2 := Lib.hid (h2.under hB)
  have HV := Lib.hid hv
  clear h h2 hB hv
  go_enter Try.func41, Try.ntmps41
  go_wp2_with fail
  refine (sub_bad a n cap zs p inc hp hi a2 n2 cap2 ys q jnc hq hj HV.out _ H.out H2.out).mono ?_
  rintro e w1 ⟨rfl, hb⟩
  have HB1 := Lib.hid (HBl.out.trans (hb.mono HBl.out.size))
  clear hb
  go_wp2_with fail
  exact bodyPost_ret (v := .tuple #[.int .i64 0, .bool false, .int .i64 1]) (by simp [results, Try.results41, go_sem]) rfl ⟨rfl, HB1.out.alloc HB1.out.size _⟩

end

section
variable (a : Option Addr) (n cap : Nat) (zs : List Int) (p : Nat) (inc : Int) (g : Good zs p inc) (a2 : Option Addr) (n2 cap2 : Nat) (ys : List Int) (q : Nat) (jnc : Int) (k : Good ys q jnc) (t : Int) (ok : Bool)
    (w : World) (h : RowZ w a n cap zs) (h2 : RowZ w a2 n2 cap2 ys)

include g k h h2
set_option maxHeartbeats 3200000 in
theorem settles_ok (hE : SetP (dC zs p inc ys q jnc) t ok) : Calls Try.prog 41 #[curV a n cap p inc, curV a2 n2 cap2 q jnc] w (Tick3 t ok 0 w) := by
  have hB := two_boxes w (.cells #[.slice a n cap, .int .i64 p, .int .i64 inc] 24) (.cells #[.slice a2 n2 cap2, .int .i64 q, .int .i64 jnc] 24)
  have HBl := Lib.hid hB
  obtain ⟨S, hS⟩ : ∃ S, max (n - p) (n2 - q) = S := ⟨_, rfl⟩
  obtain ⟨L, hL⟩ : ∃ L, p / Nat.gcd p q * q = L := ⟨_, rfl⟩
  obtain ⟨c, hc⟩ : ∃ c, growC zs p inc ys q jnc L = c := ⟨_, rfl⟩
  have hD : DifOk w a n cap zs p inc a2 n2 cap2 ys q jnc S L := ⟨g, k, h, h2, hS, hL⟩
  have H := Lib.hid (hD.under hB)
  have hPer := hD.per
  rw [hc] at hPer
  have HP := Lib.hid hPer
  obtain ⟨hS1, hL1, hL2⟩ := hD.small
  have hEX := hD.exact
  rw [hc] at hEX
  have HEX := Lib.hid hEX
  have hne := growC_ne (L := L) g k
  rw [hc] at hne
  have HNE := Lib.hid hne
  have hcb : -(14400 * 1073741824) ≤ c := by
    by_cases h0 : c = 0
    · omega
    · obtain ⟨l1, e1⟩ : ∃ l, L / p = l := ⟨_, rfl⟩
      obtain ⟨l2, e2⟩ : ∃ l, L / q = l := ⟨_, rfl⟩
      have h3 : l2 ≤ L := by rw [← e2]; exact Nat.div_le_self _ _
      have h5 : (l2 : Int) * jnc ≤ 14400 * 1073741824 := Int.mul_le_mul (by omega) k.i1 k.i0 (by omega)
      have h6 : 0 ≤ (l1 : Int) * inc := Int.mul_nonneg (by omega) g.i0
      have h4 := growC_fin (p := p) (q := q) (inc := inc) (jnc := jnc) (hne h0).1 (hne h0).2 (L := L)
      rw [e1, e2, hc] at h4
      omega
  have HE := Lib.hid hE
  have HC := Lib.hid hc
  clear h h2 hB hS hL hc hD hPer hE g k hEX hne
  go_enter Try.func41, Try.ntmps41
  go_wp2_with fail
  refine (sub_ok a n cap zs p inc H.out.g a2 n2 cap2 ys q jnc H.out.k S L c H.out.s H.out.l HC.out _ H.out.r H.out.r2).mono ?_
  rintro e w1 ⟨rfl, hb⟩
  have HB2 := Lib.hid ((HBl.out.trans (hb.mono HBl.out.size)).alloc (HBl.out.trans (hb.mono HBl.out.size)).size (.cells #[.slice a n cap, .int .i64 p, .int .i64 inc, .slice a2 n2 cap2, .int .i64 q, .int .i64 jnc, .int .i64 S, .int .i64 L, .int .i64 c] 66))
  have H2 := Lib.hid ((H.out.under hb).under (box_below w1 (.cells #[.slice a n cap, .int .i64 p, .int .i64 inc, .slice a2 n2 cap2, .int .i64 q, .int .i64 jnc, .int .i64 S, .int .i64 L, .int .i64 c] 66)))
  have KE := Lib.hid (dif_new w1 (.slice a n cap) (.int .i64 p) (.int .i64 inc) (.slice a2 n2 cap2) (.int .i64 q) (.int .i64 jnc) (.int .i64 S) (.int .i64 L) (.int .i64 c) 66)
  clear hb H
  by_cases hc0 : 0 < c
  · go_wp2_with fail
    obtain ⟨rfl, rfl⟩ := HE.out.unique (set_up HP.out hL1 hc0)
    exact bodyPost_ret (v := .tuple #[.int .i64 0, .bool false, .int .i64 0]) (by simp [results, Try.results41, go_sem]) rfl ⟨rfl, HB2.out⟩
  · have hc1 : c ≤ 0 := by omega
    go_wp2_with fail
    refine (settledBefore_any 60 (fun v => decide (0 < v)) (enters_of Try.func60 (by kernel_rfl) rfl) (fun v b w hb => settles1_any v b w hb) a n cap zs p inc a2 n2 cap2 ys q jnc S L c _ H2.out).mono ?_
    rintro e w3 ⟨T0, hT0, hT1, hT2, rfl, hb⟩
    have hI0 : SetI (dC zs p inc ys q jnc) S L 0 T0 := SetI.start (fun u hu ht => by
        have h1 := hT1 u hu ht
        have h2 := (H2.out.sign (t := u) (by omega)).1
        rw [h2]; simpa using h1) (hT2.imp id fun h3 => by
        rw [(H2.out.sign (t := T0 - 1) (by omega)).1]; simpa using h3)
    have HI0 := Lib.hid hI0
    generalize hw2 : w1.alloc (.cells #[.slice a n cap, .int .i64 p, .int .i64 inc, .slice a2 n2 cap2, .int .i64 q, .int .i64 jnc, .int .i64 S, .int .i64 L, .int .i64 c] 66) = w2 at HB2 H2 KE hb
    clear hw2
    have H3 := Lib.hid (H2.out.under hb)
    have KE3 := Lib.hid (KE.out.below hb)
    have HB3 := Lib.hid (HB2.out.trans (hb.mono HB2.out.size))
    obtain ⟨⟨c0, c1, c2, f0, f1, f2⟩, c3, c4, c5, c6, c7, c8, f3, f4, f5, f6, f7, f8⟩ := KE3.out
    clear hb hT1 hT2 hI0 H2 KE HB2
    go_wp2_with fail
    clear c0 c1 c2 c3 c4 c5 c6 c7 c8 f0 f1 f2 f3 f4 f5 f6 f7 f8
    go_loopw [9, 30] (fun s9 s30 wx => ∃ (r T : Nat), s30 = .int .i64 r ∧ s9 = .int .i64 T ∧ r ≤ L ∧ T ≤ 400000000000000000 ∧ Hid (SetI (dC zs p inc ys q jnc) S L r T) ∧ Hid (Below w3.heap.size w3 wx)) (fun _ s30 _ => L - (intOf s30).toNat)
    case atStart => exact ⟨0, T0, by go_num, rfl, by omega, by omega, HI0, Below.refl _ _⟩
    case round =>
      obtain ⟨r, T, rfl, rfl, hr, hT, HI, HX⟩ := hrel
      obtain ⟨w4, rfl⟩ : ∃ u : World, u = wr := ⟨_, rfl⟩
      obtain ⟨⟨c0, c1, c2, f0, f1, f2⟩, c3, c4, c5, c6, c7, c8, f3, f4, f5, f6, f7, f8⟩ := KE3.out.below HX.out
      by_cases hlt : r < L
      · have hlt' : (r : Int) < (L : Int) := by omega
        obtain ⟨j, hj⟩ : ∃ j, S + r = j := ⟨_, rfl⟩
        have qj : (S : Int) + (r : Int) = (j : Int) := by omega
        have hjb : j ≤ 20000 := by omega
        obtain ⟨v, hv⟩ : ∃ v, atC zs p inc j - atC ys q jnc j = v := ⟨_, rfl⟩
        have hsg := (H3.out.sign (t := j) (by omega)).1
        have hvb := dif_bd H3.out.g H3.out.k (t := j) (by omega)
        rw [hv] at hsg hvb
        obtain ⟨hvb1, hvb2⟩ := hvb
        have HV := Lib.hid hv
        have HS := Lib.hid hsg
        have HJ := Lib.hid hj
        clear hv hsg hj
        go_wp2_with fail
        clear c0 c1 c2 c3 c4 c5 c6 c7 c8 f0 f1 f2 f3 f4 f5 f6 f7 f8
        refine (diff_at a n cap zs p inc a2 n2 cap2 ys q jnc S L c _ (H3.out.under HX.out) j j rfl (by omega) v HV.out).mono ?_
        rintro e w5 ⟨rfl, hb⟩
        have HX2 := Lib.hid (HX.out.trans (hb.mono HX.out.size))
        clear hb
        obtain ⟨⟨c0, c1, c2, f0, f1, f2⟩, c3, c4, c5, c6, c7, c8, f3, f4, f5, f6, f7, f8⟩ := KE3.out.below HX2.out
        by_cases hpos : v ≤ 0
        · go_wp2_with fail
          exact ⟨⟨r + 1, T, by go_num, rfl, by omega, hT, HI.out.skip HP.out hc1 (by rw [HJ.out]; have := HS.out; omega), HX2⟩, by simp [intOf]; omega⟩
        · have hpos2 : 0 < v := by omega
          by_cases hcz : c = 0
          · subst hcz
            go_wp2_with fail
            obtain ⟨rfl, rfl⟩ := HE.out.unique (set_stay HP.out hL1 (r := r) (by rw [HJ.out]; exact HS.out.2 hpos2))
            exact bodyPost_ret (v := .tuple #[.int .i64 0, .bool false, .int .i64 0]) (by simp [results, Try.results41, go_sem]) rfl ⟨rfl, HB3.out.trans (HX2.out.mono HB3.out.size)⟩
          · have hcn : c < 0 := by omega
            have hdv : dC zs p inc ys q jnc j = v := by rw [HEX.out hcz, HV.out]
            have hv3 : v ≤ 1073741824 * 20001 := by
              have h1 := (H3.out.g.bd (HNE.out hcz).1 j).2
              have h2 := H3.out.k.nonneg j
              have := HV.out
              omega
            obtain ⟨m, hm⟩ : ∃ m, (v - 1) / (-c) = m := ⟨_, rfl⟩
            have hm0 : 0 ≤ m := by rw [← hm]; exact Int.ediv_nonneg (by omega) (by omega)
            have hm1 : m ≤ v - 1 := by rw [← hm]; exact Int.ediv_le_self _ (by omega)
            have hcw : IntKind.i64.wrap (-c) = -c := IntWalk.i64_in _ ⟨by omega, by omega⟩
            have hmt : (v - 1).tdiv (-c) = m := by rw [Int.tdiv_eq_ediv_of_nonneg (by omega)]; exact hm
            obtain ⟨P, hP⟩ : ∃ P, m * (L : Int) = P := ⟨_, rfl⟩
            have hPb : 0 ≤ P ∧ P ≤ (1073741824 * 20001) * 14400 := by
              rw [← hP]; exact ⟨Int.mul_nonneg (by omega) (by omega), Int.mul_le_mul (by omega) (by omega) (by omega) (by omega)⟩
            obtain ⟨hP0, hP1⟩ := hPb
            have hPw : IntKind.i64.wrap (m * (L : Int)) = P := by rw [hP]; exact IntWalk.i64_in _ ⟨by omega, by omega⟩
            have hst : ∀ T' : Nat, (T' : Int) = max (T : Int) ((j : Int) + P + 1) → SetI (dC zs p inc ys q jnc) S L (r + 1) T' := fun T' hT' => by
              refine HI.out.fall HP.out hL1 hcn (by rw [HJ.out]; exact HS.out.2 hpos2) ?_
              rw [HJ.out, hdv, hm, hP]; exact hT'
            have HST := Lib.hid hst
            have hcn2 : ¬ -c = 0 := by omega
            clear hdv hst
            obtain ⟨X, hX⟩ : ∃ X : Nat, (X : Int) = (j : Int) + P + 1 := ⟨((j : Int) + P + 1).toNat, by omega⟩
            have hX2 : (j : Int) + P = (X : Int) - 1 := by omega
            have hXb : X ≤ 400000000000000000 := by omega
            have HXX := Lib.hid hX
            clear hX
            by_cases hmx : T < X
            · have hmx2 : (T : Int) < (X : Int) := by omega
              go_wp2_with fail
              exact ⟨⟨r + 1, X, by go_num, rfl, by omega, hXb, HST.out X (by have := HXX.out; omega), HX2⟩, by simp [intOf]; omega⟩
            · have hmx2 : ¬ (T : Int) < (X : Int) := by omega
              go_wp2_with fail
              exact ⟨⟨r + 1, T, by go_num, rfl, by omega, hT, HST.out T (by have := HXX.out; omega), HX2⟩, by simp [intOf]; omega⟩
      · obtain rfl : r = L := by omega
        have hlt' : ¬ (r : Int) < (r : Int) := by omega
        go_wp2_with fail
        obtain ⟨rfl, rfl⟩ := HE.out.unique (HI.out.done hL1)
        exact bodyPost_ret (v := .tuple #[.int .i64 T, .bool true, .int .i64 0]) (by simp [results, Try.results41, go_sem]) rfl ⟨rfl, HB3.out.trans (HX.out.mono HB3.out.size)⟩

end
end Go.Proofs.Ytolgklpdmlohlaa

namespace Go.Proofs.Ytolgklpdmlohlaa
open Go.RowKit
set_option linter.unusedSimpArgs false

theorem g3_good : Good [0, 10, 12] 1 2 := (okC_iff [0, 10, 12] 1 2).1 (by decide)
theorem f3_fin : ¬ InfC [0] := by rw [infC_iff]; decide
theorem g3_fin : ¬ InfC [0, 10, 12] := by rw [infC_iff]; decide
theorem f3_at (t : Nat) : atC [0] 1 3 t = 3 * (t : Int) := by
  have hp := zero_good.per (show ¬ ([0] : List Int).getD (([0] : List Int).length - 1) 0 = infV by decide)
  induction t with
  | zero => decide
  | succ t ih => have := hp t (Nat.zero_le _); omega
theorem g3_at (t : Nat) (ht : 2 ≤ t) : atC [0, 10, 12] 1 2 t = 8 + 2 * (t : Int) := by
  have hp := g3_good.per (show ¬ ([0, 10, 12] : List Int).getD (([0, 10, 12] : List Int).length - 1) 0 = infV by decide)
  induction t with
  | zero => omega
  | succ t ih =>
    by_cases h : t = 1
    · subst h; decide
    · have h1 := hp t (by show 2 ≤ t; omega)
      have h2 := ih (by omega)
      omega
theorem g3_at0 : atC [0, 10, 12] 1 2 0 = 0 := by decide
theorem g3_at1 : atC [0, 10, 12] 1 2 1 = 10 := by decide

theorem ex_exc : ExcP (dC [0] 1 3 [0, 10, 12] 1 2) 9 true := by
  refine .inl ⟨rfl, 9, rfl, ?_, fun u hu => ?_⟩
  · rw [dC_fin f3_fin g3_fin, f3_at, g3_at _ (by omega)]; decide
  · rw [dC_fin f3_fin g3_fin, f3_at]
    by_cases h : 2 ≤ u
    · rw [g3_at _ h]; omega
    · have : u = 0 ∨ u = 1 := by omega
      rcases this with rfl | rfl
      · rw [g3_at0]; decide
      · rw [g3_at1]; decide
theorem ex_set : SetP (dC [0, 10, 12] 1 2 [0] 1 3) 8 true := by
  refine .inl ⟨rfl, 8, rfl, fun u hu => ?_, .inr ?_⟩
  · rw [dC_fin g3_fin f3_fin, f3_at, g3_at _ (by omega)]; omega
  · rw [dC_fin g3_fin f3_fin, f3_at, g3_at _ (by omega)]; decide
theorem ex_meet : MeetP (dC [0] 1 3 [0, 10, 12] 1 2) 0 false := by
  refine .inr ⟨rfl, rfl, fun T => ⟨T + 9, by omega, ?_⟩⟩
  rw [dC_fin f3_fin g3_fin, f3_at, g3_at _ (by omega)]; omega
theorem ex_self : ExcP (dC [0] 1 3 [0] 1 3) 0 false := by
  refine .inr ⟨rfl, rfl, fun u => ?_⟩
  rw [dC_fin f3_fin f3_fin]; omega

theorem two_lits (w : World) : Two ((((w.alloc (.cells #[.int .i64 0] 3)).alloc (.cells #[.int .i64 0, .int .i64 10, .int .i64 12] 3)).alloc (.cells #[.slice (some ⟨w.heap.size, 0, none⟩) 1 1, .int .i64 1, .int .i64 3] 24)).alloc (.cells #[.slice (some ⟨w.heap.size + 1, 0, none⟩) 3 3, .int .i64 1, .int .i64 2] 24)) (w.heap.size + 1 + 1) (some ⟨w.heap.size, 0, none⟩) 1 1 1 3 [0] (w.heap.size + 1 + 1 + 1) (some ⟨w.heap.size + 1, 0, none⟩) 3 3 1 2 [0, 10, 12] ∧ Below w.heap.size w ((((w.alloc (.cells #[.int .i64 0] 3)).alloc (.cells #[.int .i64 0, .int .i64 10, .int .i64 12] 3)).alloc (.cells #[.slice (some ⟨w.heap.size, 0, none⟩) 1 1, .int .i64 1, .int .i64 3] 24)).alloc (.cells #[.slice (some ⟨w.heap.size + 1, 0, none⟩) 3 3, .int .i64 1, .int .i64 2] 24)) := by
  have r1 := rowZ_lit w [0] 3 (by decide) (by decide)
  have r2 := rowZ_lit (w.alloc (.cells #[.int .i64 0] 3)) [0, 10, 12] 3 (by decide) (by decide)
  have e1 : (w.alloc (.cells #[.int .i64 0] 3)).heap.size = w.heap.size + 1 := by simp
  rw [e1] at r2
  have b1 := Cur3.new ((w.alloc (.cells #[.int .i64 0] 3)).alloc (.cells #[.int .i64 0, .int .i64 10, .int .i64 12] 3)) (.slice (some ⟨w.heap.size, 0, none⟩) 1 1) (.int .i64 1) (.int .i64 3) 24
  rw [show ((w.alloc (.cells #[.int .i64 0] 3)).alloc (.cells #[.int .i64 0, .int .i64 10, .int .i64 12] 3)).heap.size = w.heap.size + 1 + 1 by simp] at b1
  have b2 := Cur3.new (((w.alloc (.cells #[.int .i64 0] 3)).alloc (.cells #[.int .i64 0, .int .i64 10, .int .i64 12] 3)).alloc (.cells #[.slice (some ⟨w.heap.size, 0, none⟩) 1 1, .int .i64 1, .int .i64 3] 24)) (.slice (some ⟨w.heap.size + 1, 0, none⟩) 3 3) (.int .i64 1) (.int .i64 2) 24
  rw [show (((w.alloc (.cells #[.int .i64 0] 3)).alloc (.cells #[.int .i64 0, .int .i64 10, .int .i64 12] 3)).alloc (.cells #[.slice (some ⟨w.heap.size, 0, none⟩) 1 1, .int .i64 1, .int .i64 3] 24)).heap.size = w.heap.size + 1 + 1 + 1 by simp] at b2
  exact ⟨⟨b1.alloc _, ((r1.alloc _).alloc _).alloc _, b2, (r2.alloc _).alloc _⟩, ((((Below.refl _ _).alloc (Nat.le_refl _) _).alloc (by simp) _).alloc (by simp; omega) _).alloc (by simp; omega) _⟩

end Go.Proofs.Ytolgklpdmlohlaa
