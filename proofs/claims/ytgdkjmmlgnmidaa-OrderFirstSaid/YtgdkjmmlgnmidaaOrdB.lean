/- Contracts of package order: subtract, firstPositive, settledBeforeStart. By the verifier's side. -/
import Derived.Test.YtgdkjmmlgnmidaaOrdA
import Derived.Test.YtgdkjmmlgnmidaaCurveEqualW
import Derived.RegionTactic
import Derived.StillTailTactics
namespace Go.Proofs.Ytgdkjmmlgnmidaa
open Go.RowKit
set_option linter.unusedSimpArgs false

/-- What subtract hands back: the difference, and an error code. -/
def GivesDif (v : Value) (e : Int) (w : World) (en : Ending) (w' : World) : Prop := en = .returned (.tuple #[v, .int .i64 e]) ∧ Below w.heap.size w w'

theorem below_set9 {B : Nat} {u w : World} {b : Nat} (h : Below B u w) (hb : B ≤ b) (v0 v1 v2 v3 v4 v5 v6 v7 v8 : Value) :
    Below B u (((((((((w.setCell ⟨b, 0, none⟩ v0).setCell ⟨b, 1, none⟩ v1).setCell ⟨b, 2, none⟩ v2).setCell ⟨b, 3, none⟩ v3).setCell ⟨b, 4, none⟩ v4).setCell ⟨b, 5, none⟩ v5).setCell ⟨b, 6, none⟩ v6).setCell ⟨b, 7, none⟩ v7).setCell ⟨b, 8, none⟩ v8) :=
  ((((((((h.setCell (p := ⟨b, 0, none⟩) hb _).setCell (p := ⟨b, 1, none⟩) hb _).setCell (p := ⟨b, 2, none⟩) hb _).setCell (p := ⟨b, 3, none⟩) hb _).setCell (p := ⟨b, 4, none⟩) hb _).setCell (p := ⟨b, 5, none⟩) hb _).setCell (p := ⟨b, 6, none⟩) hb _).setCell (p := ⟨b, 7, none⟩) hb _).setCell (p := ⟨b, 8, none⟩) hb _

set_option maxRecDepth 100000 in
set_option maxHeartbeats 3200000 in
theorem sub_bad (a : Option Addr) (n cap : Nat) (zs : List Int) (p inc : Int) (hp : In64 p) (hi : In64 inc) (a2 : Option Addr) (n2 cap2 : Nat) (ys : List Int) (q jnc : Int) (hq : In64 q) (hj : In64 jnc)
    (hv : okC zs p inc = false ∨ okC ys q jnc = false) (w : World) (h : RowZ w a n cap zs) (h2 : RowZ w a2 n2 cap2 ys) :
    Calls Try.prog 32 #[curV a n cap p inc, curV a2 n2 cap2 q jnc] w (GivesDif (difV none 0 0 0 0 none 0 0 0 0 0 0 0) 1 w) := by
  have hB : Below w.heap.size w (((w.alloc (.cells #[.slice a n cap, .int .i64 p, .int .i64 inc] 24)).alloc (.cells #[.slice a2 n2 cap2, .int .i64 q, .int .i64 jnc] 24)).alloc (.cells #[.slice none 0 0, .int .i64 0, .int .i64 0, .slice none 0 0, .int .i64 0, .int .i64 0, .int .i64 0, .int .i64 0, .int .i64 0] 52)) :=
    (((Below.refl _ _).alloc (Nat.le_refl _) _).alloc (by simp) _).alloc (by simp; omega) _
  have HBl := Lib.hid hB
  have H := Lib.hid (h.under hB)
  have H2 := Lib.hid (h2.under hB)
  have KG := Lib.hid ((Cur3.new2 w (.slice a2 n2 cap2) (.int .i64 q) (.int .i64 jnc) 24 (.cells #[.slice a n cap, .int .i64 p, .int .i64 inc] 24)).alloc (.cells #[.slice none 0 0, .int .i64 0, .int .i64 0, .slice none 0 0, .int .i64 0, .int .i64 0, .int .i64 0, .int .i64 0, .int .i64 0] 52))
  have KD := Lib.hid (dif_new ((w.alloc (.cells #[.slice a n cap, .int .i64 p, .int .i64 inc] 24)).alloc (.cells #[.slice a2 n2 cap2, .int .i64 q, .int .i64 jnc] 24)) (.slice none 0 0) (.int .i64 0) (.int .i64 0) (.slice none 0 0) (.int .i64 0) (.int .i64 0) (.int .i64 0) (.int .i64 0) (.int .i64 0) 52)
  rw [show ((w.alloc (.cells #[.slice a n cap, .int .i64 p, .int .i64 inc] 24)).alloc (.cells #[.slice a2 n2 cap2, .int .i64 q, .int .i64 jnc] 24)).heap.size = w.heap.size + 1 + 1 by simp] at KD
  obtain ⟨b1, hb1⟩ : ∃ b, okC zs p inc = b := ⟨_, rfl⟩
  have V1 := Lib.hid hb1
  have HV := Lib.hid hv
  clear h h2 hB hv
  go_enter Try.func32, Try.ntmps32
  go_wp2_with fail
  generalize hw0 : (((w.alloc (.cells #[.slice a n cap, .int .i64 p, .int .i64 inc] 24)).alloc (.cells #[.slice a2 n2 cap2, .int .i64 q, .int .i64 jnc] 24)).alloc (.cells #[.slice none 0 0, .int .i64 0, .int .i64 0, .slice none 0 0, .int .i64 0, .int .i64 0, .int .i64 0, .int .i64 0, .int .i64 0] 52)) = w0 at HBl H H2 KG KD ⊢
  clear hw0
  refine (valid_any a n cap zs p inc hp hi b1 V1.out _ H.out).mono ?_
  rintro e w1 ⟨rfl, hb⟩
  have HB1 := Lib.hid (HBl.out.trans (hb.mono HBl.out.size))
  cases b1 with
  | false =>
    obtain ⟨⟨d0, d1, d2, g0, g1, g2⟩, d3, d4, d5, d6, d7, d8, g3, g4, g5, g6, g7, g8⟩ := KD.out.below hb
    go_wp2_with fail
    refine bodyPost_ret (v := .tuple #[difV none 0 0 0 0 none 0 0 0 0 0 0 0, .int .i64 1]) (by simp [results, Try.results32, go_sem, d0, d1, d2, d3, d4, d5, d6, d7, d8, g0, g1, g2, g3, g4, g5, g6, g7, g8]) rfl ⟨rfl, below_set9 HB1.out (by omega) _ _ _ _ _ _ _ _ _⟩
  | true =>
    have V2 := Lib.hid (HV.out.resolve_left (by rw [V1.out]; decide))
    obtain ⟨c0, c1, c2, f0, f1, f2⟩ := KG.out.below hb
    go_wp2_with fail
    clear c0 c1 c2 f0 f1 f2
    refine (valid_any a2 n2 cap2 ys q jnc hq hj false V2.out _ (H2.out.under hb)).mono ?_
    rintro e w2 ⟨rfl, hb2⟩
    have HB2 := Lib.hid (HB1.out.trans (hb2.mono HB1.out.size))
    obtain ⟨⟨d0, d1, d2, g0, g1, g2⟩, d3, d4, d5, d6, d7, d8, g3, g4, g5, g6, g7, g8⟩ := (KD.out.below hb).below hb2
    go_wp2_with fail
    refine bodyPost_ret (v := .tuple #[difV none 0 0 0 0 none 0 0 0 0 0 0 0, .int .i64 1]) (by simp [results, Try.results32, go_sem, d0, d1, d2, d3, d4, d5, d6, d7, d8, g0, g1, g2, g3, g4, g5, g6, g7, g8]) rfl ⟨rfl, below_set9 HB2.out (by omega) _ _ _ _ _ _ _ _ _⟩

theorem two_store {w : World} {F : Nat} {a : Option Addr} {n cap p : Nat} {inc : Int} {zs : List Int} {G : Nat} {b : Option Addr} {m cup q : Nat} {jnc : Int} {ys : List Int} (h : Two w F a n cap p inc zs G b m cup q jnc ys) {E : Nat} (hF : ¬ F = E) (hG : ¬ G = E)
    (h1 : ∀ x, a = some x → ¬ x.block = E) (h2 : ∀ x, b = some x → ¬ x.block = E) (i : Nat) (v : Value) : Two (w.setCell ⟨E, i, none⟩ v) F a n cap p inc zs G b m cup q jnc ys :=
  ⟨h.bx.other hF i v, h.rx.store (fun x hx _ => h1 x hx) i v, h.by'.other hG i v, h.ry.store (fun x hx _ => h2 x hx) i v⟩

theorem finB_of {zs : List Int} {p : Nat} {inc : Int} (g : Good zs p inc) : finB zs p inc = true ↔ ¬ InfC zs := by
  unfold finB InfC; rw [(okC_iff zs p inc).2 g]; simp

theorem growC_bool {zs ys : List Int} {p q : Nat} {inc jnc : Int} (g : Good zs p inc) (k : Good ys q jnc) {L : Nat} :
    (finB zs p inc = finB ys q jnc → growC zs p inc ys q jnc L = ((L / p : Nat) : Int) * inc - ((L / q : Nat) : Int) * jnc) ∧ (¬ finB zs p inc = finB ys q jnc → growC zs p inc ys q jnc L = 0) := by
  have h1 := finB_of g
  have h2 := finB_of k
  constructor
  · intro h
    unfold growC
    rw [if_pos]
    rw [← h, h1] at h2
    exact ⟨fun a => Classical.byContradiction fun b => h2.2 b a, fun a => Classical.byContradiction fun b => h2.1 b a⟩
  · intro h
    refine growC_inf g k (Classical.byContradiction fun hn => h ?_)
    rw [h1.2 (fun x => hn (.inl x)), h2.2 (fun x => hn (.inr x))]

set_option maxRecDepth 100000 in
set_option maxHeartbeats 6400000 in
theorem sub_ok (a : Option Addr) (n cap : Nat) (zs : List Int) (p : Nat) (inc : Int) (g : Good zs p inc) (a2 : Option Addr) (n2 cap2 : Nat) (ys : List Int) (q : Nat) (jnc : Int) (k : Good ys q jnc) (S L : Nat) (c : Int)
    (hS : max (n - p) (n2 - q) = S) (hL : p / Nat.gcd p q * q = L) (hc : growC zs p inc ys q jnc L = c) (w : World) (h : RowZ w a n cap zs) (h2 : RowZ w a2 n2 cap2 ys) :
    Calls Try.prog 32 #[curV a n cap p inc, curV a2 n2 cap2 q jnc] w (GivesDif (difV a n cap p inc a2 n2 cap2 q jnc S L c) 0 w) := by
  have hB : Below w.heap.size w (((w.alloc (.cells #[.slice a n cap, .int .i64 p, .int .i64 inc] 24)).alloc (.cells #[.slice a2 n2 cap2, .int .i64 q, .int .i64 jnc] 24)).alloc (.cells #[.slice none 0 0, .int .i64 0, .int .i64 0, .slice none 0 0, .int .i64 0, .int .i64 0, .int .i64 0, .int .i64 0, .int .i64 0] 52)) :=
    (((Below.refl _ _).alloc (Nat.le_refl _) _).alloc (by simp) _).alloc (by simp; omega) _
  have HBl := Lib.hid hB
  have T0 := Lib.hid (show Two (((w.alloc (.cells #[.slice a n cap, .int .i64 p, .int .i64 inc] 24)).alloc (.cells #[.slice a2 n2 cap2, .int .i64 q, .int .i64 jnc] 24)).alloc (.cells #[.slice none 0 0, .int .i64 0, .int .i64 0, .slice none 0 0, .int .i64 0, .int .i64 0, .int .i64 0, .int .i64 0, .int .i64 0] 52)) w.heap.size a n cap p inc zs (w.heap.size + 1) a2 n2 cap2 q jnc ys from
    ⟨((Cur3.new w (.slice a n cap) (.int .i64 p) (.int .i64 inc) 24).alloc _).alloc _, h.under hB, (Cur3.new2 w _ _ _ _ _).alloc _, h2.under hB⟩)
  have KD := Lib.hid (dif_new ((w.alloc (.cells #[.slice a n cap, .int .i64 p, .int .i64 inc] 24)).alloc (.cells #[.slice a2 n2 cap2, .int .i64 q, .int .i64 jnc] 24)) (.slice none 0 0) (.int .i64 0) (.int .i64 0) (.slice none 0 0) (.int .i64 0) (.int .i64 0) (.int .i64 0) (.int .i64 0) (.int .i64 0) 52)
  rw [show ((w.alloc (.cells #[.slice a n cap, .int .i64 p, .int .i64 inc] 24)).alloc (.cells #[.slice a2 n2 cap2, .int .i64 q, .int .i64 jnc] 24)).heap.size = w.heap.size + 1 + 1 by simp] at KD
  have V1 := Lib.hid ((okC_iff zs p inc).2 g)
  have V2 := Lib.hid ((okC_iff ys q jnc).2 k)
  have hl1 := h.len
  have hl2 := h2.len
  have hgp1 := g.p1; have hgp2 := g.p2; have hgp3 := g.p3; have hgf := g.few; have hgi0 := g.i0; have hgi1 := g.i1
  have hkp1 := k.p1; have hkp2 := k.p2; have hkp3 := k.p3; have hkf := k.few; have hki0 := k.i0; have hki1 := k.i1
  rw [hl1] at hgp3 hgf
  rw [hl2] at hkp3 hkf
  obtain ⟨s1, hs1⟩ : ∃ s, n - p = s := ⟨_, rfl⟩
  obtain ⟨s2, hs2⟩ : ∃ s, n2 - q = s := ⟨_, rfl⟩
  have q1 : (n : Int) - (p : Int) = (s1 : Int) := by omega
  have q2 : (n2 : Int) - (q : Int) = (s2 : Int) := by omega
  have hLL := lcm_of hgp1 hkp1 hL
  have hLb : L ≤ 14400 := Nat.le_trans hLL.le (Nat.mul_le_mul hgp2 hkp2)
  have HS := Lib.hid (And.intro hS (And.intro hs1 hs2))
  have HL := Lib.hid hL
  have HLL := Lib.hid hLL
  have HC := Lib.hid hc
  have HG := Lib.hid g
  have HK := Lib.hid k
  clear h h2 hB hS hs1 hs2 hL hLL hc g k hl1 hl2
  go_enter Try.func32, Try.ntmps32
  go_wp2_with fail
  generalize hw0 : (((w.alloc (.cells #[.slice a n cap, .int .i64 p, .int .i64 inc] 24)).alloc (.cells #[.slice a2 n2 cap2, .int .i64 q, .int .i64 jnc] 24)).alloc (.cells #[.slice none 0 0, .int .i64 0, .int .i64 0, .slice none 0 0, .int .i64 0, .int .i64 0, .int .i64 0, .int .i64 0, .int .i64 0] 52)) = w0 at HBl T0 KD ⊢
  clear hw0
  refine (valid_any a n cap zs p inc ⟨by omega, by omega⟩ ⟨by omega, by omega⟩ true V1.out _ T0.out.rx).mono ?_
  rintro e w1 ⟨rfl, hb⟩
  have HB1 := Lib.hid (HBl.out.trans (hb.mono HBl.out.size))
  have T1 := Lib.hid (T0.out.under hb)
  have KD1 := Lib.hid (KD.out.below hb)
  obtain ⟨c0, c1, c2, f0, f1, f2⟩ := T1.out.by'
  clear hb
  go_wp2_with fail
  clear c0 c1 c2 f0 f1 f2
  refine (valid_any a2 n2 cap2 ys q jnc ⟨by omega, by omega⟩ ⟨by omega, by omega⟩ true V2.out _ T1.out.ry).mono ?_
  rintro e w2 ⟨rfl, hb⟩
  have HB2 := Lib.hid (HB1.out.trans (hb.mono HB1.out.size))
  have T2 := Lib.hid (T1.out.under hb)
  have KD2 := Lib.hid (KD1.out.below hb)
  clear hb T0 T1 KD KD1 HBl HB1
  obtain ⟨c0, c1, c2, f0, f1, f2⟩ := T2.out.bx
  obtain ⟨d0, d1, d2, g0, g1, g2⟩ := T2.out.by'
  have hTlt := KD2.out.lt
  have hr1 : ∀ x, a = some x → ¬ x.block = w2.heap.size := fun x hx => by have := row_lt T2.out.rx (by omega) x hx; omega
  have hr2 : ∀ x, a2 = some x → ¬ x.block = w2.heap.size := fun x hx => by have := row_lt T2.out.ry (by omega) x hx; omega
  have HR := Lib.hid (And.intro hr1 hr2)
  clear hr1 hr2
  go_upto_region 4 with fail
  clear c0 c1 c2 f0 f1 f2 d0 d1 d2 g0 g1 g2
  have A3 := Lib.hid (T2.out.under (box_below w2 (.cells #[.slice a n cap, .int .i64 p, .int .i64 inc, .slice a2 n2 cap2, .int .i64 q, .int .i64 jnc, .int .i64 0, .int .i64 0, .int .i64 0] 52)))
  have D3 := Lib.hid (KD2.out.alloc (.cells #[.slice a n cap, .int .i64 p, .int .i64 inc, .slice a2 n2 cap2, .int .i64 q, .int .i64 jnc, .int .i64 0, .int .i64 0, .int .i64 0] 52))
  have E3 := Lib.hid (dif_new w2 (.slice a n cap) (.int .i64 p) (.int .i64 inc) (.slice a2 n2 cap2) (.int .i64 q) (.int .i64 jnc) (.int .i64 0) (.int .i64 0) (.int .i64 0) 52)
  have B3 := Lib.hid (HB2.out.alloc HB2.out.size (.cells #[.slice a n cap, .int .i64 p, .int .i64 inc, .slice a2 n2 cap2, .int .i64 q, .int .i64 jnc, .int .i64 0, .int .i64 0, .int .i64 0] 52))
  generalize w2.alloc (.cells #[.slice a n cap, .int .i64 p, .int .i64 inc, .slice a2 n2 cap2, .int .i64 q, .int .i64 jnc, .int .i64 0, .int .i64 0, .int .i64 0] 52) = w3 at A3 D3 E3 B3 ⊢
  obtain ⟨E, hEe⟩ : ∃ E, w2.heap.size = E := ⟨_, rfl⟩
  rw [hEe] at E3 hTlt HR ⊢
  clear hEe T2 KD2 HB2
  obtain ⟨c0, c1, c2, f0, f1, f2⟩ := A3.out.bx
  obtain ⟨d0, d1, d2, g0, g1, g2⟩ := A3.out.by'
  obtain ⟨_, _, _, _, e6, _, _, _, _, _, k6, _, _⟩ := E3.out
  go_cut [] (fun wx => Hid (Two wx w.heap.size a n cap p inc zs (w.heap.size + 1) a2 n2 cap2 q jnc ys) ∧
    Hid (Dif wx (w.heap.size + 1 + 1) (.slice none 0 0) (.int .i64 0) (.int .i64 0) (.slice none 0 0) (.int .i64 0) (.int .i64 0) (.int .i64 0) (.int .i64 0) (.int .i64 0)) ∧
    Hid (Dif wx E (.slice a n cap) (.int .i64 p) (.int .i64 inc) (.slice a2 n2 cap2) (.int .i64 q) (.int .i64 jnc) (.int .i64 S) (.int .i64 0) (.int .i64 0)) ∧ Hid (Below w.heap.size w wx))
  case first =>
    have hcmp : (s2 ≤ s1 ∧ S = s1) ∨ (s1 < s2 ∧ S = s2) := by have := HS.out.1; have := HS.out.2.1; have := HS.out.2.2; omega
    rcases hcmp with ⟨h12, hSe⟩ | ⟨h12, hSe⟩
    · have h12' : (s2 : Int) ≤ (s1 : Int) := by omega
      have hd12 : decide (s1 < s2) = false := by simp; omega
      have hd13 : ¬ s1 < s2 := by omega
      have HSE := Lib.hid hSe
      clear hSe
      go_wp2_with fail
      go_meet
      exact ⟨two_store A3.out (by omega) (by omega) HR.out.1 HR.out.2 _ _, D3.out.other (by omega) _ _, by rw [HSE.out]; exact E3.out.set6 _, B3.out.setCell (p := ⟨E, 6, none⟩) (by show w.heap.size ≤ E; omega) _⟩
    · have h12' : (s1 : Int) < (s2 : Int) := by omega
      have hd12 : decide (s1 < s2) = true := by simp; omega
      have HSE := Lib.hid hSe
      clear hSe
      go_wp2_with fail
      go_meet
      exact ⟨two_store A3.out (by omega) (by omega) HR.out.1 HR.out.2 _ _, D3.out.other (by omega) _ _, by rw [HSE.out]; exact E3.out.set6 _, B3.out.setCell (p := ⟨E, 6, none⟩) (by show w.heap.size ≤ E; omega) _⟩
  case rest =>
    clear A3 D3 E3 B3 c0 c1 c2 f0 f1 f2 d0 d1 d2 g0 g1 g2 e6 k6
    obtain ⟨T4, D4, E4, HB4⟩ := hcut
    obtain ⟨w4, rfl⟩ : ∃ u : World, u = wc := ⟨_, rfl⟩
    have HSE := Lib.hid HS.out
    obtain ⟨c0, c1, c2, f0, f1, f2⟩ := T4.out.bx
    obtain ⟨d0, d1, d2, g0, g1, g2⟩ := T4.out.by'
    go_wp2_with fail
    clear c0 c1 c2 f0 f1 f2 d0 d1 d2 g0 g1 g2
    refine (olm_at p q L HL.out hgp1 (by omega) hkp1 (by omega) _).mono ?_
    rintro e w5 ⟨rfl, hd⟩
    have T5 := Lib.hid (T4.out.under (below_dr (Below.refl _ _) hd))
    have D5 := Lib.hid (D4.out.dr hd)
    have E5 := Lib.hid (E4.out.dr hd)
    have HB5 := Lib.hid (below_dr HB4.out hd)
    clear hd T4 D4 E4 HB4
    obtain ⟨_, _, _, _, _, e7, _, _, _, _, _, k7, _⟩ := E5.out
    go_wp2_with fail
    clear e7 k7
    have T6 := Lib.hid (two_store T5.out (E := E) (by omega) (by omega) HR.out.1 HR.out.2 7 (.int .i64 L))
    have D6 := Lib.hid (D5.out.other (q := E) (by omega) 7 (.int .i64 L))
    have E6 := Lib.hid (E5.out.set7 (.int .i64 L))
    have HB6 := Lib.hid (HB5.out.setCell (p := ⟨E, 7, none⟩) (by show w.heap.size ≤ E; omega) (.int .i64 L))
    generalize w5.setCell ⟨E, 7, none⟩ (.int .i64 L) = w6 at T6 D6 E6 HB6 ⊢
    clear T5 D5 E5 HB5
    obtain ⟨b1, hb1⟩ : ∃ b, finB zs p inc = b := ⟨_, rfl⟩
    obtain ⟨b2, hb2⟩ : ∃ b, finB ys q jnc = b := ⟨_, rfl⟩
    have hgb := growC_bool HG.out HK.out (L := L)
    rw [hb1, hb2, HC.out] at hgb
    have F1 := Lib.hid hb1
    have F2 := Lib.hid hb2
    by_cases hbb : b1 = b2
    · have hcc := hgb.1 hbb
      subst hbb
      obtain ⟨lp, hlp⟩ : ∃ l, L / p = l := ⟨_, rfl⟩
      obtain ⟨lq, hlq⟩ : ∃ l, L / q = l := ⟨_, rfl⟩
      have hlp2 : lp ≤ L := by rw [← hlp]; exact Nat.div_le_self _ _
      have hlq2 : lq ≤ L := by rw [← hlq]; exact Nat.div_le_self _ _
      rw [hlp, hlq] at hcc
      obtain ⟨X1, hX1⟩ : ∃ x, (lp : Int) * inc = x := ⟨_, rfl⟩
      obtain ⟨X2, hX2⟩ : ∃ x, (lq : Int) * jnc = x := ⟨_, rfl⟩
      have hX1b : 0 ≤ X1 ∧ X1 ≤ 14400 * 1073741824 := by
        rw [← hX1]; exact ⟨Int.mul_nonneg (by omega) hgi0, Int.mul_le_mul (by omega) hgi1 hgi0 (by omega)⟩
      have hX2b : 0 ≤ X2 ∧ X2 ≤ 14400 * 1073741824 := by
        rw [← hX2]; exact ⟨Int.mul_nonneg (by omega) hki0, Int.mul_le_mul (by omega) hki1 hki0 (by omega)⟩
      rw [hX1, hX2] at hcc
      have q3 : (L : Int).tdiv (p : Int) = (lp : Int) := by rw [← hlp]; rfl
      have q4 : (L : Int).tdiv (q : Int) = (lq : Int) := by rw [← hlq]; rfl
      have q3' : (L : Int) / (p : Int) = (lp : Int) := by rw [← hlp]; rfl
      have q4' : (L : Int) / (q : Int) = (lq : Int) := by rw [← hlq]; rfl
      have q5 : IntKind.i64.wrap (lp : Int) = (lp : Int) := IntWalk.i64_in _ ⟨by omega, by omega⟩
      have q6 : IntKind.i64.wrap (lq : Int) = (lq : Int) := IntWalk.i64_in _ ⟨by omega, by omega⟩
      have q7 : IntKind.i64.wrap ((lp : Int) * inc) = X1 := by rw [hX1]; exact IntWalk.i64_in _ ⟨by omega, by omega⟩
      have q8 : IntKind.i64.wrap ((lq : Int) * jnc) = X2 := by rw [hX2]; exact IntWalk.i64_in _ ⟨by omega, by omega⟩
      have q9 : IntKind.i64.wrap (X1 - X2) = c := by rw [hcc]; exact IntWalk.i64_in _ ⟨by omega, by omega⟩
      have q10 : ¬ p = 0 := by omega
      have q11 : ¬ q = 0 := by omega
      have q12 : ¬ (p : Int) = 0 := by omega
      have q13 : ¬ (q : Int) = 0 := by omega
      clear hb1 hb2 hgb hcc hlp hlq hX1 hX2
      go_region_held3 (fun u => Two6 w6 w.heap.size a n cap p inc zs (w.heap.size + 1) a2 n2 cap2 q jnc ys u)
        (first | with_reducible exact two6_drew T6.out | with_reducible exact two6_call (by assumption) hbx)
        (first
          | (go_at_call 45; ((with_reducible refine (finite_any a n cap zs p inc ⟨by omega, by omega⟩ ⟨by omega, by omega⟩ b1 F1.out _ (two6_of (by assumption)).rx).mono ?_); rintro e w7 ⟨rfl, hbx⟩))
          | (go_at_call 45; ((with_reducible refine (finite_any a2 n2 cap2 ys q jnc ⟨by omega, by omega⟩ ⟨by omega, by omega⟩ b1 F2.out _ (two6_of (by assumption)).ry).mono ?_); rintro e w8 ⟨rfl, hbx⟩)))
      have hT : Two6 w6 w.heap.size a n cap p inc zs (w.heap.size + 1) a2 n2 cap2 q jnc ys w8 := by assumption
      have hb8 := two6_below hT
      have T8 := Lib.hid (two6_of hT)
      have D8 := Lib.hid (D6.out.below hb8)
      have E8 := Lib.hid (E6.out.below hb8)
      have HB8 := Lib.hid (HB6.out.trans (hb8.mono HB6.out.size))
      have C9 := Lib.hid q9
      clear hT hb8 T6 D6 E6 HB6
      obtain ⟨c0, c1, c2, f0, f1, f2⟩ := T8.out.bx
      obtain ⟨d0, d1, d2, g0, g1, g2⟩ := T8.out.by'
      obtain ⟨_, _, _, _, _, e7, e8, _, _, _, _, _, k8⟩ := E8.out
      go_wp2_with fail
      go_region
      clear c0 c1 c2 f0 f1 f2 d0 d1 d2 g0 g1 g2 e7 e8 k8
      have D9 := Lib.hid (((D8.out.other (q := E) (by omega) 8 (.int .i64 c))).below (Below.refl _ _).drew)
      have E9 := Lib.hid ((E8.out.set8 (.int .i64 c)).below (Below.refl _ _).drew)
      have HB9 := Lib.hid ((HB8.out.setCell (p := ⟨E, 8, none⟩) (by show w.heap.size ≤ E; omega) (.int .i64 c)).drew)
      generalize (w8.setCell ⟨E, 8, none⟩ (.int .i64 c)).drew = w9 at D9 E9 HB9 ⊢
      clear D8 E8 HB8 T8
      obtain ⟨⟨d0, d1, d2, g0, g1, g2⟩, d3, d4, d5, d6, d7, d8, g3, g4, g5, g6, g7, g8⟩ := D9.out
      obtain ⟨⟨e0, e1, e2, k0, k1, k2⟩, e3, e4, e5, e6, e7, e8, k3, k4, k5, k6, k7, k8⟩ := E9.out
      go_wp2_with fail
      refine bodyPost_ret (v := .tuple #[difV a n cap p inc a2 n2 cap2 q jnc S L c, .int .i64 0]) (by simp [results, Try.results32, go_sem, d0, d1, d2, d3, d4, d5, d6, d7, d8, g0, g1, g2, g3, g4, g5, g6, g7, g8]) rfl ⟨rfl, below_set9 HB9.out (by omega) _ _ _ _ _ _ _ _ _⟩
    · have hcc : c = 0 := hgb.2 hbb
      subst hcc
      have hbe : (b1 == b2) = false := by simpa using hbb
      clear hb1 hb2 hgb hbb
      go_region_held3 (fun u => Two6 w6 w.heap.size a n cap p inc zs (w.heap.size + 1) a2 n2 cap2 q jnc ys u)
        (first | with_reducible exact two6_drew T6.out | with_reducible exact two6_call (by assumption) hbx)
        (first
          | (go_at_call 45; ((with_reducible refine (finite_any a n cap zs p inc ⟨by omega, by omega⟩ ⟨by omega, by omega⟩ b1 F1.out _ (two6_of (by assumption)).rx).mono ?_); rintro e w7 ⟨rfl, hbx⟩))
          | (go_at_call 45; ((with_reducible refine (finite_any a2 n2 cap2 ys q jnc ⟨by omega, by omega⟩ ⟨by omega, by omega⟩ b2 F2.out _ (two6_of (by assumption)).ry).mono ?_); rintro e w8 ⟨rfl, hbx⟩)))
      have hT : Two6 w6 w.heap.size a n cap p inc zs (w.heap.size + 1) a2 n2 cap2 q jnc ys w8 := by assumption
      have hb8 := two6_below hT
      obtain ⟨⟨d0, d1, d2, g0, g1, g2⟩, d3, d4, d5, d6, d7, d8, g3, g4, g5, g6, g7, g8⟩ := D6.out.below hb8
      obtain ⟨⟨e0, e1, e2, k0, k1, k2⟩, e3, e4, e5, e6, e7, e8, k3, k4, k5, k6, k7, k8⟩ := E6.out.below hb8
      have HB8 := Lib.hid (HB6.out.trans (hb8.mono HB6.out.size))
      clear hT hb8
      go_wp2_with fail
      refine bodyPost_ret (v := .tuple #[difV a n cap p inc a2 n2 cap2 q jnc S L 0, .int .i64 0]) (by simp [results, Try.results32, go_sem, d0, d1, d2, d3, d4, d5, d6, d7, d8, g0, g1, g2, g3, g4, g5, g6, g7, g8]) rfl ⟨rfl, below_set9 HB8.out (by omega) _ _ _ _ _ _ _ _ _⟩
end Go.Proofs.Ytgdkjmmlgnmidaa
