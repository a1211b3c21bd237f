/- Of the document's convolution: guess, Of. By the verifier's side. -/
import Derived.Test.YtcbocglakielnaaTRCo2
import Derived.Test.YtcbocglakielnaaTRCo3
import Derived.Test.YtcbocglakielnaaTRRai
namespace Go.Proofs.Ytcbocglakielnaa
open Go.RowKit
set_option linter.unusedSimpArgs false
set_option linter.unusedVariables false

section
variable {z1 z2 : List Int} {p1 p2 : Nat} {i1 i2 : Int}
theorem slope_inf (g : Good z1 p1 i1) (k : Good z2 p2 i2) {L : Nat} (hL2 : L ≤ 120) (h : convG z1 p1 i1 z2 p2 i2 L = infV) {t : Nat} (ht : z1.length - p1 + (z2.length - p2) ≤ t + 1) : (eConv z1 p1 i1 z2 p2 i2) t = none := by
  unfold convG at h
  by_cases h0 : plI (atC z1 p1 i1 0) (atC z2 p2 i2 0) = infV
  · exact conv_inf g k h0 t
  · rw [if_neg h0] at h
    obtain ⟨b1, b2⟩ := grow_bd g hL2
    obtain ⟨b3, b4⟩ := grow_bd k hL2
    by_cases f1 : InfC z1
    · by_cases f2 : InfC z2
      · exact conv_both g k f1 f2 ht
      · rw [growI_mul f2] at h; unfold infV at h; omega
    · rw [growI_mul f1] at h; unfold infV at h; omega

/-- If all ticks of one period are attained by ticks that repeat, the list tells the convolution. -/
theorem guess_raw (g : Good z1 p1 i1) (k : Good z2 p2 i2) {L : Nat} (hL : Mult p1 p2 L) (hL2 : L ≤ 120) {fr : Nat} (hfr : z1.length - p1 + (z2.length - p2) + L ≤ fr) (hf2 : fr ≤ 1100) {Q : Int} {fin : Bool} (hS : SlopeIs z1 p1 i1 z2 p2 i2 L Q fin)
    (hsp : ∀ t, fr ≤ t → t < fr + L → ∃ s, s ≤ t ∧ Att7 z1 p1 i1 z2 p2 i2 (encF (eConv z1 p1 i1 z2 p2 i2) t) Q L t true s) : RawE (firsts (encF (eConv z1 p1 i1 z2 p2 i2)) (fr + L)) L Q (eConv z1 p1 i1 z2 p2 i2) := by
  have hL1 := hL.one
  obtain ⟨b1, b2⟩ := grow_bd g hL2
  obtain ⟨b3, b4⟩ := grow_bd k hL2
  have bd : ∀ t, t < fr + L → ∀ x, (eConv z1 p1 i1 z2 p2 i2) t = some x → 0 ≤ x ∧ x ≤ 2251799813685248 := fun t ht x hx => by have := conv_bd g k hx; omega
  have mk : ∀ (q0 : 0 ≤ Q ∧ Q ≤ 35184372088832), ((∀ t, ¬ (eConv z1 p1 i1 z2 p2 i2) t = none) → Per (encF (eConv z1 p1 i1 z2 p2 i2)) fr L Q) → ((∃ t, (eConv z1 p1 i1 z2 p2 i2) t = none) → ∃ t, t < fr + L ∧ (eConv z1 p1 i1 z2 p2 i2) t = none) → RawE (firsts (encF (eConv z1 p1 i1 z2 p2 i2)) (fr + L)) L Q (eConv z1 p1 i1 z2 p2 i2) := fun q0 h1 h2 =>
    rawE_of (by omega) hL1 (by omega) (by omega) q0 (fun t h => conv_up g k h) bd (by rw [Nat.add_sub_cancel]; exact h1) h2
  rcases hS with ⟨h, rfl, _⟩ | ⟨h, hQ, _⟩
  · have hno := slope_inf g k hL2 h (t := fr) (by omega)
    exact mk (by omega) (fun hs => absurd hno (hs fr)) fun _ => ⟨fr, by omega, hno⟩
  · have h0 : ¬ plI (atC z1 p1 i1 0) (atC z2 p2 i2 0) = infV := fun e => h (by unfold convG; rw [if_pos e])
    have hG : Q = min (growI z1 p1 i1 L) (growI z2 p2 i2 L) := by rw [hQ]; unfold convG; rw [if_neg h0]
    have hfin : (∀ t, ∃ c, (eConv z1 p1 i1 z2 p2 i2) t = some c) → Per (encF (eConv z1 p1 i1 z2 p2 i2)) fr L Q → 0 ≤ Q ∧ Q ≤ 35184372088832 → RawE (firsts (encF (eConv z1 p1 i1 z2 p2 i2)) (fr + L)) L Q (eConv z1 p1 i1 z2 p2 i2) := fun h1 h2 q0 =>
      mk q0 (fun _ => h2) fun ⟨t, ht⟩ => by obtain ⟨c, hc⟩ := h1 t; rw [hc] at ht; cases ht
    by_cases f1 : InfC z1
    · by_cases f2 : InfC z2
      · exact absurd (show convG z1 p1 i1 z2 p2 i2 L = infV by unfold convG; rw [if_neg h0, growI_inf f1, growI_inf f2]; omega) h
      · obtain ⟨c1, c2⟩ := conv_one k g f2 f1 (fun e => h0 (by rw [e, plI_l])) hL.dq
        rw [← eConv_comm] at c1 c2
        have e : Q = i2 * ((L / p2 : Nat) : Int) := by rw [hG, growI_inf f1, growI_mul f2]; unfold infV; omega
        rw [← e] at c2
        exact hfin c1 (c2.mono (by omega)) (by omega)
    · by_cases f2 : InfC z2
      · obtain ⟨c1, c2⟩ := conv_one g k f1 f2 (fun e => h0 (by rw [e, plI_r])) hL.dp
        have e : Q = i1 * ((L / p1 : Nat) : Int) := by rw [hG, growI_inf f2, growI_mul f1]; unfold infV; omega
        rw [← e] at c2
        exact hfin c1 (c2.mono (by omega)) (by omega)
      · obtain ⟨hs, hc⟩ := conv_fin (p := p1) (inc := i1) (q := p2) (jnc := i2) f1 f2
        have hx := g.perM f1 hL.dp (Nat.le_refl _)
        have hy := k.perM f2 hL.dq (Nat.le_refl _)
        rw [growI_mul f1, growI_mul f2] at hG
        have hP : Per (encF (eConv z1 p1 i1 z2 p2 i2)) fr L (min (i1 * ((L / p1 : Nat) : Int)) (i2 * ((L / p2 : Nat) : Int))) := hc.all hx hy hL1 hfr fun t h1 h2 => by
          have low := hc.lower hx hy (t := t) (by omega)
          obtain ⟨s, s1, s2, s3⟩ := hsp t h1 h2
          obtain ⟨c, hcc⟩ := hs t
          have hcb := conv_bd g k hcc
          have ev : encF (eConv z1 p1 i1 z2 p2 i2) t = c := encF_some hcc
          have n1 : ¬ atC z1 p1 i1 s = infV := fun e => by rw [e, plI_l, ev] at s2; unfold infV at s2; omega
          have n2 : ¬ atC z2 p2 i2 (t - s) = infV := fun e => by rw [e, plI_r, ev] at s2; unfold infV at s2; omega
          rw [plI_fin n1 n2] at s2
          rcases s3 with h3 | h3 | h3
          · cases h3
          · rw [ev] at h3; unfold infV at h3; omega
          · rcases h3 with ⟨_, k2, k3⟩ | ⟨_, k2, k3⟩
            · have up := hc.upper hx s1 k3 s2.symm
              omega
            · have up := hc.upper' hy s1 k3 s2.symm
              omega
        rw [← hG] at hP
        exact hfin hs hP (by omega)

/-- If there is a curve, the ticks far behind are attained so. -/
theorem guess_full (g : Good z1 p1 i1) (k : Good z2 p2 i2) {L : Nat} (hL : Mult p1 p2 L) (hL2 : L ≤ 120) {Q : Int} {fin : Bool} (hS : SlopeIs z1 p1 i1 z2 p2 i2 L Q fin) (hc : ECan (eConv z1 p1 i1 z2 p2 i2)) {t : Nat} (h1 : 800 + 2 * L ≤ t) (h2 : t ≤ 2000) :
    ∃ s, s ≤ t ∧ Att7 z1 p1 i1 z2 p2 i2 (encF (eConv z1 p1 i1 z2 p2 i2) t) Q L t true s := by
  obtain ⟨zz, pp, ii, gg, he⟩ := hc
  obtain ⟨hs, r, knc, hn⟩ := gg.norm_ex
  have hf : EForm hs r knc (eConv z1 p1 i1 z2 p2 i2) := by have := hn.eform gg; rwa [show eC zz pp ii = (eConv z1 p1 i1 z2 p2 i2) from funext he] at this
  obtain ⟨e1, _, _⟩ := form_grow g k hf hL hL2
  obtain ⟨s, s1, s2, s3⟩ := att_ex g k hf hL hL2 (t := t) (by omega)
  have ev := eform_at hf t
  rw [ev] at s2 s3
  refine ⟨s, s1, s2, .inr ?_⟩
  have n1 := g.few; have n2 := k.few; have n3 := hf.1.few; have m1 := g.p1; have m2 := k.p1; have m3 := hf.1.p1
  rcases hS with ⟨h, rfl, _⟩ | ⟨h, hQ, _⟩
  · exact .inl (encF_none (slope_inf g k hL2 h (by omega)))
  · rcases s3 with h3 | h3 | ⟨h3, h4⟩ | ⟨h3, h4⟩
    · unfold hori at h3; omega
    · exact .inl h3
    · refine .inr (.inl ?_)
      have f1 : ¬ InfC z1 := fun f => h (by rw [← e1, ← h3, growI_inf f])
      exact ⟨f1, by rw [← growI_mul f1, h3, e1, hQ], h4⟩
    · refine .inr (.inr ?_)
      have f2 : ¬ InfC z2 := fun f => h (by rw [← e1, ← h3, growI_inf f])
      exact ⟨f2, by rw [← growI_mul f2, h3, e1, hQ], h4⟩

theorem guess_below (g : Good z1 p1 i1) (k : Good z2 p2 i2) {hs : List Int} {r : Nat} {knc : Int} (h : EForm hs r knc (eConv z1 p1 i1 z2 p2 i2)) {L : Nat} (hL2 : L ≤ 120) :
    ∀ s u, s < max (z1.length - p1) (hs.length - r) + L → u < max (z2.length - p2) (hs.length - r) + L → Le7 z1 p1 i1 z2 p2 i2 hs r knc s u := fun s u h1 h2 _ => by
  have n1 := g.few; have n2 := k.few; have n3 := h.1.few
  exact below_ex g k h (by omega) (by omega)
end

/-- The normal form of a raw curve, and its form. -/
def GivesL2 (E : Nat → Option Int) (w : World) (e : Ending) (w' : World) : Prop :=
  ∃ (a : Option Addr) (n cap : Nat) (zs : List Int) (p : Nat) (inc : Int), e = .returned (curV a n cap p inc) ∧ Below w.heap.size w w' ∧ RowZ w' a n cap zs ∧ (In64 p ∧ In64 inc) ∧ TotC n p inc ∧ (Good zs p inc → EForm zs p inc E) ∧ (¬ Good zs p inc → ¬ ECan E) ∧ ∀ x, a = some x → w.heap.size ≤ x.block
theorem rleast_e2 (a : Option Addr) (n cap : Nat) (zs : List Int) (P : Nat) (inc : Int) {E : Nat → Option Int} (hE : RawE zs P inc E) (w : World) (h : RowZ w a n cap zs) :
    Calls Try.prog 101 #[curV a n cap P inc] w (GivesL2 E w) := by
  rcases hE with ⟨hr, he⟩ | ⟨hf, i, hi, hz, hj, he⟩
  · refine (rleast_raw a n cap zs P inc hr w h).mono ?_
    rintro e w1 ⟨a1, n1, cap1, s, r, c, rfl, hb, hr1, hn, h2, h3, hx⟩
    obtain ⟨k1, k2⟩ := raw_form hr he hn
    have hl := hr1.len
    rw [firsts_length] at hl
    have q1 := hn.start_le hr.per hr.p1
    have q2 := hn.per_le hr.per hr.p1
    have q3 := hr.few; have q4 := hr.p3; have q5 := hn.pos
    exact ⟨a1, n1, cap1, _, r, c, rfl, hb, hr1, ⟨⟨by omega, by omega⟩, by omega, by omega⟩, ⟨q5, by omega, by omega⟩, k1, k2, hx⟩
  · refine (rleast_rawinf a n cap zs P inc hf i hi hz hj w h).mono ?_
    rintro e w1 ⟨a1, n1, cap1, rfl, hb, hr1, hx⟩
    obtain ⟨k1, k2⟩ := raw_inf hi hz hj he
    have hl := hr1.len
    rw [List.length_take] at hl
    exact ⟨a1, n1, cap1, _, 1, 0, rfl, hb, hr1, ⟨⟨by omega, by omega⟩, by omega, by omega⟩, ⟨by omega, by omega, by omega⟩, k1, k2, hx⟩

def GivesGuess (E : Nat → Option Int) (far : Prop) (w : World) (e : Ending) (w' : World) : Prop :=
  ∃ (a : Option Addr) (n cap : Nat) (zs : List Int) (p : Nat) (inc : Int) (ok : Bool), e = .returned (.tuple #[curV a n cap p inc, .bool ok]) ∧ Below w.heap.size w w' ∧ RowZ w' a n cap zs ∧ (In64 p ∧ In64 inc) ∧ (ok = true → (Good zs p inc → EForm zs p inc E) ∧ (¬ Good zs p inc → ¬ ECan E)) ∧ (far → ECan E → ok = true) ∧ ∀ x, a = some x → w.heap.size ≤ x.block
theorem guess_post {E : Nat → Option Int} {far : Prop} {w w1 w2 : World} {b : Nat} (hB : Below w.heap.size w w1) (hb1 : w.heap.size ≤ b) (h2 : Below w1.heap.size w1 w2) {a : Option Addr} {n cap : Nat} {zs : List Int} {p : Nat} {inc : Int} {ok : Bool} (hr : RowZ w2 a n cap zs)
    (hx : ∀ x, a = some x → w.heap.size ≤ x.block ∧ x.block ≠ b) (h64 : In64 p ∧ In64 inc) (hs : ok = true → (Good zs p inc → EForm zs p inc E) ∧ (¬ Good zs p inc → ¬ ECan E)) (hc : far → ECan E → ok = true) :
    GivesGuess E far w (.returned (.tuple #[curV a n cap p inc, .bool ok])) (((w2.setCell ⟨b, 0, none⟩ (.slice a n cap)).setCell ⟨b, 1, none⟩ (.int .i64 p)).setCell ⟨b, 2, none⟩ (.int .i64 inc)) := by
  have hne : ∀ x : Addr, a = some x → 1 ≤ n → x.block ≠ b := fun x h _ => (hx x h).2
  exact ⟨a, n, cap, zs, p, inc, ok, rfl, below_set3 (hB.trans (h2.mono hB.size)) hb1 _ _ _, ((hr.store hne _ _).store hne _ _).store hne _ _, h64, hs, hc, fun x h => (hx x h).1⟩

theorem Bx.lay3 {u : World} {F B : Nat} {a : Option Addr} {n cap p : Nat} {inc : Int} {zs : List Int} (h : Bx u F a n cap p inc zs) (hB : ¬ F = B) (hx : ∀ x, a = some x → 1 ≤ n → x.block ≠ B) (y0 y1 y2 : Value) : Bx (((u.setCell ⟨B, 0, none⟩ y0).setCell ⟨B, 1, none⟩ y1).setCell ⟨B, 2, none⟩ y2) F a n cap p inc zs :=
  ⟨((h.box.other hB _ _).other hB _ _).other hB _ _, ((h.row.store hx _ _).store hx _ _).store hx _ _⟩
/-- The three curves' boxes at the end of guess. -/
structure GQ (w : World) (O : Nat) (a1 : Option Addr) (n1 cap1 : Nat) (z1 : List Int) (p1 : Nat) (i1 : Int) (a2 : Option Addr) (n2 cap2 : Nat) (z2 : List Int) (p2 : Nat) (i2 : Int) (a9 : Option Addr) (n9 cap9 : Nat) (z9 : List Int) (p9 : Nat) (i9 : Int) (u : World) : Prop where
  f : Bx u w.heap.size a1 n1 cap1 p1 i1 z1
  g : Bx u (w.heap.size + 1) a2 n2 cap2 p2 i2 z2
  h : Bx u O a9 n9 cap9 p9 i9 z9
theorem GQ.call {w u v : World} {O : Nat} {a1 : Option Addr} {n1 cap1 : Nat} {z1 : List Int} {p1 : Nat} {i1 : Int} {a2 : Option Addr} {n2 cap2 : Nat} {z2 : List Int} {p2 : Nat} {i2 : Int} {a9 : Option Addr} {n9 cap9 : Nat} {z9 : List Int} {p9 : Nat} {i9 : Int} (k : GQ w O a1 n1 cap1 z1 p1 i1 a2 n2 cap2 z2 p2 i2 a9 n9 cap9 z9 p9 i9 u) (hb : Below u.heap.size u v) : GQ w O a1 n1 cap1 z1 p1 i1 a2 n2 cap2 z2 p2 i2 a9 n9 cap9 z9 p9 i9 v := ⟨k.f.under hb, k.g.under hb, k.h.under hb⟩

set_option maxRecDepth 100000 in
set_option maxHeartbeats 6400000 in
theorem guess7 (a1 : Option Addr) (n1 cap1 : Nat) (z1 : List Int) (p1 : Nat) (i1 : Int) (g1 : Good z1 p1 i1) (a2 : Option Addr) (n2 cap2 : Nat) (z2 : List Int) (p2 : Nat) (i2 : Int) (g2 : Good z2 p2 i2) (L : Nat) (hL : Mult p1 p2 L) (hL2 : L ≤ 120) (fr : Nat) (hfr : z1.length - p1 + (z2.length - p2) + L ≤ fr) (hf2 : fr ≤ 1100) (w : World) (h1 : RowZ w a1 n1 cap1 z1) (h2 : RowZ w a2 n2 cap2 z2) :
    Calls Try.prog 74 #[curV a1 n1 cap1 p1 i1, curV a2 n2 cap2 p2 i2, .int .i64 L, .int .i64 fr] w (GivesGuess (eConv z1 p1 i1 z2 p2 i2) (fr = 800 + 2 * L) w) := by
  obtain ⟨ii0, ihi, ihz0, ihz1, ihz2⟩ := info_parts info_int
  obtain ⟨W, hW⟩ : ∃ W, ((w.alloc (.cells #[.slice a1 n1 cap1, .int .i64 p1, .int .i64 i1] 24)).alloc (.cells #[.slice a2 n2 cap2, .int .i64 p2, .int .i64 i2] 24)).alloc (.cells #[.slice none 0 0, .int .i64 0, .int .i64 0] 24) = W := ⟨_, rfl⟩
  obtain ⟨⟨hB, hWs⟩, k1, k2, kr⟩ := boxesB w a1 n1 cap1 p1 i1 a2 n2 cap2 p2 i2 hW
  have HB := Lib.hid hB
  have KR := Lib.hid kr
  have HWS := Lib.hid hWs
  have XA := Lib.hid (show Bx W w.heap.size a1 n1 cap1 p1 i1 z1 from ⟨k1, h1.under hB⟩)
  have XB := Lib.hid (show Bx W (w.heap.size + 1) a2 n2 cap2 p2 i2 z2 from ⟨k2, h2.under hB⟩)
  have HG := Lib.hid (And.intro g1 g2)
  have FR := Lib.hid (And.intro h1.far h2.far)
  have HM := Lib.hid (And.intro hL hfr)
  have hL1 : 1 ≤ L := hL.one
  obtain ⟨Q, fin, hS⟩ : ∃ Q fin, SlopeIs z1 p1 i1 z2 p2 i2 L Q fin := by
    by_cases h : convG z1 p1 i1 z2 p2 i2 L = infV
    · exact ⟨0, false, .inl ⟨h, rfl, rfl⟩⟩
    · exact ⟨_, true, .inr ⟨h, rfl, rfl⟩⟩
  have HS := Lib.hid hS
  have HQB := Lib.hid (show 0 ≤ Q ∧ Q ≤ 128849018880 by
    obtain ⟨b1, b2⟩ := grow_bd g1 hL2
    obtain ⟨b3, b4⟩ := grow_bd g2 hL2
    rcases hS with ⟨_, rfl, _⟩ | ⟨h, rfl, _⟩
    · omega
    · unfold convG at h ⊢
      by_cases h0 : plI (atC z1 p1 i1 0) (atC z2 p2 i2 0) = infV
      · rw [if_pos h0] at h; exact absurd rfl h
      · rw [if_neg h0] at h ⊢
        by_cases f1 : InfC z1
        · by_cases f2 : InfC z2
          · rw [growI_inf f1, growI_inf f2] at h; exact absurd (by omega) h
          · rw [growI_inf f1, growI_mul f2]; unfold infV; omega
        · by_cases f2 : InfC z2
          · rw [growI_inf f2, growI_mul f1]; unfold infV; omega
          · rw [growI_mul f1, growI_mul f2]; omega)
  have HW := Lib.hid hW
  obtain ⟨N, hN⟩ : ∃ N, fr + L = N := ⟨_, rfl⟩
  have hNi : (fr : Int) + (L : Int) = (N : Int) := by omega
  have hNw : IntKind.i64.wrap (N : Int) = (N : Int) := IntWalk.i64_in _ ⟨by omega, by omega⟩
  have hNb : N ≤ 1300 := by omega
  have HN := Lib.hid hN
  obtain ⟨f, hf⟩ : ∃ f, encF (eConv z1 p1 i1 z2 p2 i2) = f := ⟨_, rfl⟩
  have HF := Lib.hid hf
  have HIN := Lib.hid (show ∀ t, t < N → In64 (f t) from fun t ht => by
    have h := (conv_mid g1 g2 (t := t) (by omega))
    rw [hf] at h
    exact ⟨by have := h.bd; omega, by have := h.bd; omega⟩)
  obtain ⟨m0, m1, m2, m3, m4, m5⟩ := k1
  obtain ⟨u0, u1, u2, u3, u4, u5⟩ := k2
  clear hB kr hWs h1 h2 g1 g2 hL hfr hS hW hN hf
  go_enter Try.func74, Try.ntmps74
  go_upto_region 1 with fail
  try rw [HW.out]
  go_wp2_with fail
  clear m0 m1 m2 m3 m4 m5 u0 u1 u2 u3 u4 u5
  refine (slope7 a1 n1 cap1 z1 p1 i1 HG.out.1 a2 n2 cap2 z2 p2 i2 HG.out.2 L hL2 Q fin HS.out _ XA.out.row XB.out.row).mono ?_
  rintro e W2 ⟨rfl, hb⟩
  have XA2 := Lib.hid (XA.out.under hb)
  have XB2 := Lib.hid (XB.out.under hb)
  have KR2 := Lib.hid (KR.out.below hb)
  have HB2 := Lib.hid (HB.out.trans (hb.mono HB.out.size))
  have HSZ := Lib.hid (show w.heap.size + 3 ≤ W2.heap.size by have := hb.size; have := HWS.out; omega)
  have L0 := Lib.hid (Ap.start W2 (L : Int) Q f)
  have FX := Lib.hid (show ∀ u, Below W2.heap.size W2 u → (Bx u w.heap.size a1 n1 cap1 p1 i1 z1 ∧ Bx u (w.heap.size + 1) a2 n2 cap2 p2 i2 z2) ∧ Cur3 u (w.heap.size + 2) (.slice none 0 0) (.int .i64 0) (.int .i64 0) from fun u hu => ⟨⟨XA2.out.under hu, XB2.out.under hu⟩, KR2.out.below hu⟩)
  clear hb XA XB KR HB HW
  go_wp2_with fail
  go_loopw [13] (fun s13 wx => ∃ (k : Nat) (sv : Value), s13 = .int .i64 k ∧ k ≤ N ∧ Hid (∀ t, fr ≤ t → t < k → ∃ s, s ≤ t ∧ Att7 z1 p1 i1 z2 p2 i2 (f t) Q L t true s) ∧ Hid (Ap W2 (L : Int) Q f k sv wx)) (fun s13 _ => N - (intOf s13).toNat)
  case atStart => exact ⟨0, .slice none 0 0, by go_num, by omega, fun t _ ht => absurd ht (Nat.not_lt_zero t), L0⟩
  case round =>
    clear L0
    obtain ⟨k, sv, rfl, hk, HSP, HA⟩ := hrel
    obtain ⟨wk, rfl⟩ : ∃ u : World, u = wr := ⟨_, rfl⟩
    have Y1 := Lib.hid (FX.out _ HA.out.below)
    obtain ⟨c0, c1, c2, c3, c4, c5⟩ := Y1.out.1.1.box
    obtain ⟨d0, d1, d2, d3, d4, d5⟩ := Y1.out.1.2.box
    by_cases hlt : k < N
    · have hlt' : (k : Int) < (N : Int) := by omega
      obtain ⟨vv, hvv⟩ : ∃ v, f k = v := ⟨_, rfl⟩
      have HVV := Lib.hid hvv
      clear hvv
      go_wp2_with fail
      clear c0 c1 c2 c3 c4 c5 d0 d1 d2 d3 d4 d5
      with_reducible refine (least7 a1 n1 cap1 z1 p1 i1 HG.out.1 a2 n2 cap2 z2 p2 i2 HG.out.2 k (by omega) vv (by rw [HF.out]; exact HVV.out) _ Y1.out.1.1.row Y1.out.1.2.row).mono ?_
      rintro e w7 ⟨rfl, hb⟩
      have L7 := Lib.hid (HA.out.under hb)
      clear hb HA Y1
      have N8 : Hid (∀ j u, [Value.int .i64 vv][j]? = some u → (w7.alloc (.cells #[.int .i64 vv] 3)).cell? ((⟨w7.heap.size, 0, none⟩ : Addr).add j) = some u) := Lib.hid (World.news_of_block (cs := #[.int .i64 vv]) (t := 3) (fr := (0, 0)) (heap_alloc_new w7 _))
      have L8 := Lib.hid (L7.out.alloc (.cells #[.int .i64 vv] 3))
      obtain ⟨o0, o1, o2, o3, o4, o5⟩ := L7.out.out
      go_wp2_with (at_builtin; refine wpList_append_own _ rfl _ _ 22 rfl (W2.heap.size + 1) 3 ii0 (.int .i64 0) 1 8 Try.underlying22 ihi ihz0 ihz1 ihz2 rfl (by decide) _ _ _ rfl L8.out.own ⟨w7.heap.size, 0, none⟩ 1 1 [.int .i64 vv] rfl rfl N8.out ?c2 ?c3 ?c4 ?c5 ?_)
      case c2 => intro u hu; simp at hu; subst hu; rfl
      case c3 => unfold maxLen; omega
      case c4 => omega
      case c5 => exact L8.out.out.lt
      intro v' w9 hown' hgrow _
      obtain ⟨g9, cap9, rfl, hg9, hg9'⟩ := hown'.form (Nat.succ_pos _)
      obtain ⟨lnext, kout⟩ := L8.out.push hown' hgrow HVV.out
      have L10 := Lib.hid lnext
      obtain ⟨w10, hw10⟩ : ∃ u, w9.setCell ⟨W2.heap.size, 0, none⟩ (.slice (some ⟨g9, 0, none⟩) (k + 1) cap9) = u := ⟨_, rfl⟩
      rw [hw10] at L10
      have HW10 := Lib.hid hw10
      clear hown' hgrow lnext hw10 L7 L8 N8 o0 o1 o2 o3 o4 o5
      obtain ⟨o0, o1, o2, o3, o4, o5⟩ := kout
      go_upto_region 8 with fail
      try rw [HW10.out]
      clear o0 o1 o2 o3 o4 o5
      have Y2 := Lib.hid (FX.out _ L10.out.below)
      obtain ⟨c0, c1, c2, c3, c4, c5⟩ := Y2.out.1.1.box
      obtain ⟨d0, d1, d2, d3, d4, d5⟩ := Y2.out.1.2.box
      by_cases hge : fr ≤ k
      rotate_left
      · have hge' : ¬ (fr : Int) ≤ (k : Int) := by omega
        have hge2 : decide (fr ≤ k) = false := decide_eq_false hge
        go_wp2_with fail
        go_roundw
        case rel => exact ⟨k + 1, _, by go_num, by omega, fun t h1 h2 => HSP.out t h1 (by omega), L10⟩
        case measure => simp [intOf]; omega
      have hge' : (fr : Int) ≤ (k : Int) := by omega
      have hge2 : decide (fr ≤ k) = true := decide_eq_true hge
      go_wp2_with fail
      clear c0 c1 c2 c3 c4 c5 d0 d1 d2 d3 d4 d5
      with_reducible refine (split7 a1 n1 cap1 z1 p1 i1 HG.out.1 a2 n2 cap2 z2 p2 i2 HG.out.2 vv Q L k true hL2 (by omega) _ Y2.out.1.1.row Y2.out.1.2.row).mono ?_
      rintro e w11 ⟨r, rfl, hb, ⟨rfl, hno⟩ | ⟨s, rfl, hs, hat, hbf⟩⟩
      · have L11 := Lib.hid (L10.out.under hb)
        have Y3 := Lib.hid (FX.out _ L11.out.below)
        obtain ⟨g, cap, hsv, RL, XL⟩ := L11.out.row (by omega) (by omega) (fun t ht => HIN.out t (by omega))
        obtain ⟨rfl, rfl⟩ : g = g9 ∧ cap = cap9 := by cases hsv; exact ⟨rfl, rfl⟩
        have HP := Lib.hid (guess_post (E := (eConv z1 p1 i1 z2 p2 i2)) (far := fr = 800 + 2 * L) (ok := false) (b := w.heap.size + 2) (p := L) (inc := Q) (HB2.out.trans (L11.out.below.mono HB2.out.size)) (by omega) (Below.refl _ _) RL (fun x hx => by cases hx; have := HSZ.out; exact ⟨by show w.heap.size ≤ g; omega, by show g ≠ w.heap.size + 2; omega⟩) ⟨⟨by omega, by omega⟩, by have := HQB.out; omega, by have := HQB.out; omega⟩ (fun h => by cases h) (fun hf hc => by
          exfalso
          obtain ⟨s, s1, s2⟩ := guess_full HG.out.1 HG.out.2 HM.out.1 hL2 HS.out hc (t := k) (by omega) (by omega)
          rw [HF.out, HVV.out] at s2
          exact hno s s1 s2))
        have hm1 : ¬ (0 : Int) ≤ -1 := by omega
        obtain ⟨o0, o1, o2, o3, o4, o5⟩ := L11.out.out
        obtain ⟨r0, r1, r2, r3, r4, r5⟩ := Y3.out.2
        clear hb hno hsv RL XL
        go_wp2_with fail
        exact bodyPost_ret (v := .tuple #[curV (some ⟨g, 0, none⟩) (k + 1) cap L Q, .bool false]) (by simp [results, Try.results74, go_sem, r0, r1, r2, o0, o1, o2]) rfl HP.out
      · have L11 := Lib.hid (L10.out.under hb)
        have HAT := Lib.hid hat
        clear hb hat hbf
        have hs0 : ¬ (s : Int) < 0 := by omega
        have hs1 : decide ((s : Int) < 0) = false := decide_eq_false hs0
        go_wp2_with fail
        go_roundw
        case rel => exact ⟨k + 1, _, by go_num, by omega, fun t h1 h2 => by
          by_cases e : t = k
          · subst e; exact ⟨s, hs, by rw [HVV.out]; exact HAT.out⟩
          · exact HSP.out t h1 (by omega), L11⟩
        case measure => simp [intOf]; omega
    · have hlt' : ¬ (k : Int) < (N : Int) := by omega
      obtain rfl : k = N := by omega
      obtain ⟨g, cap, rfl, RL, XL⟩ := HA.out.row (by omega) (by omega) HIN.out
      have RLAST := Lib.hid RL
      have HRAW := Lib.hid (show RawE (firsts f k) L Q (eConv z1 p1 i1 z2 p2 i2) by
        rw [← HF.out, ← HN.out]
        refine guess_raw HG.out.1 HG.out.2 HM.out.1 hL2 HM.out.2 hf2 HS.out fun t h1 h2 => ?_
        have := HSP.out t h1 (by have := HN.out; omega)
        rw [← HF.out] at this; exact this)
      have BL := Lib.hid HA.out.below
      have OL := Lib.hid HA.out.out
      obtain ⟨o0, o1, o2, o3, o4, o5⟩ := HA.out.out
      clear RL HA
      go_wp2_with fail
      clear c0 c1 c2 c3 c4 c5 d0 d1 d2 d3 d4 d5 o0 o1 o2 o3 o4 o5
      refine (rleast_e2 _ _ _ _ _ _ HRAW.out _ RLAST.out).mono ?_
      rintro e v9 ⟨a9, n9, cap9, z9, p9, i9, rfl, hb, hr, h64, htot, hgood, hno, hx⟩
      have O9 := Lib.hid (OL.out.below hb)
      have B9 := Lib.hid (BL.out.trans (hb.mono BL.out.size))
      have H9 := Lib.hid (And.intro h64 (And.intro htot (And.intro hgood hno)))
      have hlo : W2.heap.size < v9.heap.size := O9.out.lt
      have hX9 : ∀ x, a9 = some x → W2.heap.size < x.block := fun x e => by have := hx x e; have := OL.out.lt; omega
      have X9 := Lib.hid hX9
      obtain ⟨V, hV⟩ : ∃ u, ((v9.setCell ⟨W2.heap.size, 0, none⟩ (.slice a9 n9 cap9)).setCell ⟨W2.heap.size, 1, none⟩ (.int .i64 p9)).setCell ⟨W2.heap.size, 2, none⟩ (.int .i64 i9) = u := ⟨_, rfl⟩
      have hq : ∀ x, a9 = some x → 1 ≤ n9 → x.block ≠ W2.heap.size := fun x e _ => by have := hX9 x e; omega
      have XV := Lib.hid (show Bx V W2.heap.size a9 n9 cap9 p9 i9 z9 by rw [← hV]; exact ⟨O9.out.set _ _ _, ((hr.store hq _ _).store hq _ _).store hq _ _⟩)
      have BV := Lib.hid (show Below W2.heap.size W2 V by rw [← hV]; exact below_set3 B9.out (Nat.le_refl _) _ _ _)
      have HV := Lib.hid hV
      obtain ⟨o0, o1, o2, o3, o4, o5⟩ := O9.out
      have tp1 : ¬ (p9 : Int) = 0 := by have := htot.p1; omega
      have tp2 : ¬ p9 = 0 := by have := htot.p1; omega
      obtain ⟨m, hm⟩ : ∃ m, L % p9 = m := ⟨_, rfl⟩
      have hmt : (L : Int).tmod (p9 : Int) = (m : Int) := by rw [Int.tmod_eq_emod_of_nonneg (by omega), ← hm]; exact (Int.natCast_emod _ _).symm
      have hme : (L : Int) % (p9 : Int) = (m : Int) := by rw [← hm]; exact (Int.natCast_emod _ _).symm
      have hmL : m ≤ L := by rw [← hm]; exact Nat.mod_le _ _
      have hmw : IntKind.i64.wrap (m : Int) = (m : Int) := IntWalk.i64_in _ ⟨by omega, by omega⟩
      have HMM := Lib.hid hm
      clear hb hr h64 htot hgood hno hx hX9 hq hV hm
      go_upto_region 11 with fail
      try rw [HV.out]
      clear o0 o1 o2 o3 o4 o5
      have KS := Lib.hid (show ∀ u, GQ w W2.heap.size a1 n1 cap1 z1 p1 i1 a2 n2 cap2 z2 p2 i2 a9 n9 cap9 z9 p9 i9 u → ((u.cell? ⟨w.heap.size, 0, none⟩ = some (.slice a1 n1 cap1) ∧ u.cell? ⟨w.heap.size, 1, none⟩ = some (.int .i64 p1) ∧ u.cell? ⟨w.heap.size, 2, none⟩ = some (.int .i64 i1)) ∧ (u.cell? ⟨w.heap.size + 1, 0, none⟩ = some (.slice a2 n2 cap2) ∧ u.cell? ⟨w.heap.size + 1, 1, none⟩ = some (.int .i64 p2) ∧ u.cell? ⟨w.heap.size + 1, 2, none⟩ = some (.int .i64 i2)) ∧ (u.cell? ⟨W2.heap.size, 0, none⟩ = some (.slice a9 n9 cap9) ∧ u.cell? ⟨W2.heap.size, 1, none⟩ = some (.int .i64 p9) ∧ u.cell? ⟨W2.heap.size, 2, none⟩ = some (.int .i64 i9)) ∧ Hid (GQ w W2.heap.size a1 n1 cap1 z1 p1 i1 a2 n2 cap2 z2 p2 i2 a9 n9 cap9 z9 p9 i9 u)) from fun u h => ⟨⟨h.f.box.c0, h.f.box.c1, h.f.box.c2⟩, ⟨h.g.box.c0, h.g.box.c1, h.g.box.c2⟩, ⟨h.h.box.c0, h.h.box.c1, h.h.box.c2⟩, h⟩)
      have GV := Lib.hid (show GQ w W2.heap.size a1 n1 cap1 z1 p1 i1 a2 n2 cap2 z2 p2 i2 a9 n9 cap9 z9 p9 i9 V from ⟨(FX.out _ BV.out).1.1, (FX.out _ BV.out).1.2, XV.out⟩)
      have Q0 := Lib.hid (And.intro (GV.out.call (Below.refl _ _).drew) (Below.refl V.heap.size V).drew)
      have LAY := Lib.hid (show ∀ u y0 y1 y2, GQ w W2.heap.size a1 n1 cap1 z1 p1 i1 a2 n2 cap2 z2 p2 i2 a9 n9 cap9 z9 p9 i9 u → GQ w W2.heap.size a1 n1 cap1 z1 p1 i1 a2 n2 cap2 z2 p2 i2 a9 n9 cap9 z9 p9 i9 (((u.setCell ⟨w.heap.size + 2, 0, none⟩ y0).setCell ⟨w.heap.size + 2, 1, none⟩ y1).setCell ⟨w.heap.size + 2, 2, none⟩ y2) from fun u y0 y1 y2 h =>
        ⟨h.f.lay3 (by omega) (fun x e q => by have := FR.out.1 x e q; omega) _ _ _, h.g.lay3 (by omega) (fun x e q => by have := FR.out.2 x e q; omega) _ _ _, h.h.lay3 (by have := HSZ.out; omega) (fun x e q => by have := X9.out x e; have := HSZ.out; omega) _ _ _⟩)
      by_cases hm0 : m = 0
      rotate_left
      · have hmb : ((m : Int) == 0) = false := by simp; omega
        have hmb2 : (m == 0) = false := by simp; omega
        obtain ⟨V0, hV0⟩ : ∃ u, V.drew = u := ⟨_, rfl⟩
        rw [hV0] at Q0
        have QZ := Q0
        rw [← hV0] at QZ
        refine wp_region_keeps (fun u => (u.cell? ⟨w.heap.size, 0, none⟩ = some (.slice a1 n1 cap1) ∧ u.cell? ⟨w.heap.size, 1, none⟩ = some (.int .i64 p1) ∧ u.cell? ⟨w.heap.size, 2, none⟩ = some (.int .i64 i1)) ∧ (u.cell? ⟨w.heap.size + 1, 0, none⟩ = some (.slice a2 n2 cap2) ∧ u.cell? ⟨w.heap.size + 1, 1, none⟩ = some (.int .i64 p2) ∧ u.cell? ⟨w.heap.size + 1, 2, none⟩ = some (.int .i64 i2)) ∧ (u.cell? ⟨W2.heap.size, 0, none⟩ = some (.slice a9 n9 cap9) ∧ u.cell? ⟨W2.heap.size, 1, none⟩ = some (.int .i64 p9) ∧ u.cell? ⟨W2.heap.size, 2, none⟩ = some (.int .i64 i9)) ∧ Hid (GQ w W2.heap.size a1 n1 cap1 z1 p1 i1 a2 n2 cap2 z2 p2 i2 a9 n9 cap9 z9 p9 i9 u)) 14 1 (by kernel_rfl) (by kernel_rfl) (KS.out _ QZ.out.1) (fun hHeld0 => ?_)
        refine wpAnyK_take (i := 0) (v := ?_) rfl (by kernel_rfl) (fun _ _ _ h => h) (Or.inl ⟨by rfl, ?_⟩) (by assumption) ?_
        rotate_left
        · (intro w hSw; (try dsimp only at hSw); go_simp; try with_reducible rfl)
        try simp only [Act.put, List.getElem_toArray, List.getElem_cons_zero, List.getElem_cons_succ, List.setIfInBounds_toArray, List.set_cons_zero, List.set_cons_succ]
        refine wpAnyK_take (i := 1) (v := ?_) rfl (by kernel_rfl) (fun _ _ _ h => h) (Or.inl ⟨by rfl, ?_⟩) (by assumption) ?_
        rotate_left
        · (intro w hSw; (try dsimp only at hSw); go_simp; try with_reducible rfl)
        try simp only [Act.put, List.getElem_toArray, List.getElem_cons_zero, List.getElem_cons_succ, List.setIfInBounds_toArray, List.set_cons_zero, List.set_cons_succ]
        refine wpAnyK_take (i := 2) (v := ?_) rfl (by kernel_rfl) (fun _ _ _ h => h) (Or.inl ⟨by rfl, ?_⟩) (by assumption) ?_
        rotate_left
        · (intro w hSw; (try dsimp only at hSw); go_simp; try with_reducible rfl)
        try simp only [Act.put, List.getElem_toArray, List.getElem_cons_zero, List.getElem_cons_succ, List.setIfInBounds_toArray, List.set_cons_zero, List.set_cons_succ]
        refine wpAnyK_take (i := 3) (v := ?_) rfl (by kernel_rfl) (fun _ _ _ h => h) (Or.inl ⟨by rfl, ?_⟩) (by assumption) ?_
        rotate_left
        · (intro w hSw; (try dsimp only at hSw); go_simp; try with_reducible rfl)
        try simp only [Act.put, List.getElem_toArray, List.getElem_cons_zero, List.getElem_cons_succ, List.setIfInBounds_toArray, List.set_cons_zero, List.set_cons_succ]
        refine wpAnyK_take (i := 4) (v := ?_) rfl (by kernel_rfl) (fun _ _ _ h => h) (Or.inl ⟨by rfl, ?_⟩) (by assumption) ?_
        rotate_left
        · (intro w hSw; (try dsimp only at hSw); go_simp; try with_reducible rfl)
        try simp only [Act.put, List.getElem_toArray, List.getElem_cons_zero, List.getElem_cons_succ, List.setIfInBounds_toArray, List.set_cons_zero, List.set_cons_succ]
        refine wpAnyK_take (i := 5) (v := ?_) rfl (by kernel_rfl) (fun _ _ _ h => h) (Or.inl ⟨by rfl, ?_⟩) (by assumption) ?_
        rotate_left
        · (intro w hSw; (try dsimp only at hSw); go_simp; try with_reducible rfl)
        try simp only [Act.put, List.getElem_toArray, List.getElem_cons_zero, List.getElem_cons_succ, List.setIfInBounds_toArray, List.set_cons_zero, List.set_cons_succ]
        refine wpAnyK_take (i := 6) (v := ?_) rfl (by kernel_rfl) (fun _ _ _ h => h) (Or.inl ⟨by rfl, ?_⟩) (by assumption) ?_
        rotate_left
        · (intro w hSw; (try dsimp only at hSw); go_simp; try with_reducible rfl)
        try simp only [Act.put, List.getElem_toArray, List.getElem_cons_zero, List.getElem_cons_succ, List.setIfInBounds_toArray, List.set_cons_zero, List.set_cons_succ]
        refine wpAnyK_take (i := 7) (v := undef) rfl (by kernel_rfl) (fun _ _ _ h => h) (Or.inr ⟨by rfl, rfl⟩) (by assumption) ?_
        try simp only [Act.put, List.getElem_toArray, List.getElem_cons_zero, List.getElem_cons_succ, List.setIfInBounds_toArray, List.set_cons_zero, List.set_cons_succ]
        refine wpAnyK_take (i := 8) (v := undef) rfl (by kernel_rfl) (fun _ _ _ h => h) (Or.inr ⟨by rfl, rfl⟩) (by assumption) ?_
        try simp only [Act.put, List.getElem_toArray, List.getElem_cons_zero, List.getElem_cons_succ, List.setIfInBounds_toArray, List.set_cons_zero, List.set_cons_succ]
        refine wpAnyK_take (i := 9) (v := undef) rfl (by kernel_rfl) (fun _ _ _ h => h) (Or.inr ⟨by rfl, rfl⟩) (by assumption) ?_
        try simp only [Act.put, List.getElem_toArray, List.getElem_cons_zero, List.getElem_cons_succ, List.setIfInBounds_toArray, List.set_cons_zero, List.set_cons_succ]
        refine wpAnyK_take (i := 10) (v := undef) rfl (by kernel_rfl) (fun _ _ _ h => h) (Or.inr ⟨by rfl, rfl⟩) (by assumption) ?_
        try simp only [Act.put, List.getElem_toArray, List.getElem_cons_zero, List.getElem_cons_succ, List.setIfInBounds_toArray, List.set_cons_zero, List.set_cons_succ]
        refine wpAnyK_take (i := 11) (v := undef) rfl (by kernel_rfl) (fun _ _ _ h => h) (Or.inr ⟨by rfl, rfl⟩) (by assumption) ?_
        try simp only [Act.put, List.getElem_toArray, List.getElem_cons_zero, List.getElem_cons_succ, List.setIfInBounds_toArray, List.set_cons_zero, List.set_cons_succ]
        refine wpAnyK_take (i := 12) (v := ?_) rfl (by kernel_rfl) (fun _ _ _ h => h) (Or.inl ⟨by rfl, ?_⟩) (by assumption) ?_
        rotate_left
        · (intro w hSw; (try dsimp only at hSw); go_simp; try with_reducible rfl)
        try simp only [Act.put, List.getElem_toArray, List.getElem_cons_zero, List.getElem_cons_succ, List.setIfInBounds_toArray, List.set_cons_zero, List.set_cons_succ]
        try rw [hV0]
        have YR := Lib.hid (FX.out _ (BV.out.trans (Q0.out.2.mono BV.out.size))).2
        obtain ⟨r0, r1, r2, r3, r4, r5⟩ := YR.out
        refine wpAnyK_step (i := 13) rfl (by kernel_rfl) (fun K hK => ?_)
        go_simp
        refine hK.out _ _ (KS.out _ (LAY.out _ (.slice a9 n9 cap9) (.int .i64 p9) (.int .i64 i9) Q0.out.1)) (fun hHeld9 => ?_)
        clear hK K hHeld0
        try simp only [Act.put, List.getElem_toArray, List.getElem_cons_zero, List.getElem_cons_succ, List.setIfInBounds_toArray, List.set_cons_zero, List.set_cons_succ]
        refine wpAnyK_done (by kernel_rfl) ?_
        simp only [List.drop_succ_cons, List.drop_zero]
        clear hHeld9
        have HP := Lib.hid (guess_post (E := (eConv z1 p1 i1 z2 p2 i2)) (far := fr = 800 + 2 * L) (ok := false) (b := w.heap.size + 2) (p := p9) (inc := i9) (HB2.out.trans (BV.out.mono HB2.out.size)) (by omega) Q0.out.2 (XV.out.row.under Q0.out.2) (fun x hx => by have := X9.out x hx; have := HSZ.out; exact ⟨by omega, by omega⟩) H9.out.1 (fun h => by cases h) (fun _ hc => by
          exfalso
          by_cases g9 : Good z9 p9 i9
          · have := (form_grow HG.out.1 HG.out.2 (H9.out.2.2.1 g9) HM.out.1 hL2).2.1
            rw [HMM.out] at this; exact hm0 this
          · exact H9.out.2.2.2 g9 hc))
        go_wp2_with fail
        exact bodyPost_ret (v := .tuple #[curV a9 n9 cap9 p9 i9, .bool false]) (by simp [results, Try.results74, go_sem, r0, r1, r2]) rfl HP.out
      have hmb : ((m : Int) == 0) = true := by simp; omega
      have hmb2 : (m == 0) = true := by simp; omega
      have QZ := Q0
      refine wp_region_keeps (fun u => (u.cell? ⟨w.heap.size, 0, none⟩ = some (.slice a1 n1 cap1) ∧ u.cell? ⟨w.heap.size, 1, none⟩ = some (.int .i64 p1) ∧ u.cell? ⟨w.heap.size, 2, none⟩ = some (.int .i64 i1)) ∧ (u.cell? ⟨w.heap.size + 1, 0, none⟩ = some (.slice a2 n2 cap2) ∧ u.cell? ⟨w.heap.size + 1, 1, none⟩ = some (.int .i64 p2) ∧ u.cell? ⟨w.heap.size + 1, 2, none⟩ = some (.int .i64 i2)) ∧ (u.cell? ⟨W2.heap.size, 0, none⟩ = some (.slice a9 n9 cap9) ∧ u.cell? ⟨W2.heap.size, 1, none⟩ = some (.int .i64 p9) ∧ u.cell? ⟨W2.heap.size, 2, none⟩ = some (.int .i64 i9)) ∧ Hid (GQ w W2.heap.size a1 n1 cap1 z1 p1 i1 a2 n2 cap2 z2 p2 i2 a9 n9 cap9 z9 p9 i9 u)) 14 1 (by kernel_rfl) (by kernel_rfl) (KS.out _ QZ.out.1) (fun hHeld0 => ?_)
      refine wpAnyK_take (i := 0) (v := ?_) rfl (by kernel_rfl) (fun _ _ _ h => h) (Or.inl ⟨by rfl, ?_⟩) (by assumption) ?_
      rotate_left
      · (intro w hSw; (try dsimp only at hSw); go_simp; try with_reducible rfl)
      try simp only [Act.put, List.getElem_toArray, List.getElem_cons_zero, List.getElem_cons_succ, List.setIfInBounds_toArray, List.set_cons_zero, List.set_cons_succ]
      refine wpAnyK_take (i := 1) (v := ?_) rfl (by kernel_rfl) (fun _ _ _ h => h) (Or.inl ⟨by rfl, ?_⟩) (by assumption) ?_
      rotate_left
      · (intro w hSw; (try dsimp only at hSw); go_simp; try with_reducible rfl)
      try simp only [Act.put, List.getElem_toArray, List.getElem_cons_zero, List.getElem_cons_succ, List.setIfInBounds_toArray, List.set_cons_zero, List.set_cons_succ]
      refine wpAnyK_take (i := 2) (v := ?_) rfl (by kernel_rfl) (fun _ _ _ h => h) (Or.inl ⟨by rfl, ?_⟩) (by assumption) ?_
      rotate_left
      · (intro w hSw; (try dsimp only at hSw); go_simp; try with_reducible rfl)
      try simp only [Act.put, List.getElem_toArray, List.getElem_cons_zero, List.getElem_cons_succ, List.setIfInBounds_toArray, List.set_cons_zero, List.set_cons_succ]
      refine wpAnyK_take (i := 3) (v := ?_) rfl (by kernel_rfl) (fun _ _ _ h => h) (Or.inl ⟨by rfl, ?_⟩) (by assumption) ?_
      rotate_left
      · (intro w hSw; (try dsimp only at hSw); go_simp; try with_reducible rfl)
      try simp only [Act.put, List.getElem_toArray, List.getElem_cons_zero, List.getElem_cons_succ, List.setIfInBounds_toArray, List.set_cons_zero, List.set_cons_succ]
      refine wpAnyK_take (i := 4) (v := ?_) rfl (by kernel_rfl) (fun _ _ _ h => h) (Or.inl ⟨by rfl, ?_⟩) (by assumption) ?_
      rotate_left
      · (intro w hSw; (try dsimp only at hSw); go_simp; try with_reducible rfl)
      try simp only [Act.put, List.getElem_toArray, List.getElem_cons_zero, List.getElem_cons_succ, List.setIfInBounds_toArray, List.set_cons_zero, List.set_cons_succ]
      refine wpAnyK_take (i := 5) (v := ?_) rfl (by kernel_rfl) (fun _ _ _ h => h) (Or.inl ⟨by rfl, ?_⟩) (by assumption) ?_
      rotate_left
      · (intro w hSw; (try dsimp only at hSw); go_simp; try with_reducible rfl)
      try simp only [Act.put, List.getElem_toArray, List.getElem_cons_zero, List.getElem_cons_succ, List.setIfInBounds_toArray, List.set_cons_zero, List.set_cons_succ]
      refine wpAnyK_take (i := 6) (v := ?_) rfl (by kernel_rfl) (fun _ _ _ h => h) (Or.inl ⟨by rfl, ?_⟩) (by assumption) ?_
      rotate_left
      · (intro w hSw; (try dsimp only at hSw); go_simp; try with_reducible rfl)
      try simp only [Act.put, List.getElem_toArray, List.getElem_cons_zero, List.getElem_cons_succ, List.setIfInBounds_toArray, List.set_cons_zero, List.set_cons_succ]
      refine wpAnyK_take (i := 7) (v := ?_) rfl (by kernel_rfl) (fun _ _ _ h => h) (Or.inl ⟨by rfl, ?_⟩) (by assumption) ?_
      rotate_left
      · (intro w hSw; (try dsimp only at hSw); go_simp; try with_reducible rfl)
      try simp only [Act.put, List.getElem_toArray, List.getElem_cons_zero, List.getElem_cons_succ, List.setIfInBounds_toArray, List.set_cons_zero, List.set_cons_succ]
      refine wpAnyK_take (i := 8) (v := ?_) rfl (by kernel_rfl) (fun _ _ _ h => h) (Or.inl ⟨by rfl, ?_⟩) (by assumption) ?_
      rotate_left
      · (intro w hSw; (try dsimp only at hSw); go_simp; try with_reducible rfl)
      try simp only [Act.put, List.getElem_toArray, List.getElem_cons_zero, List.getElem_cons_succ, List.setIfInBounds_toArray, List.set_cons_zero, List.set_cons_succ]
      refine wpAnyK_take (i := 9) (v := ?_) rfl (by kernel_rfl) (fun _ _ _ h => h) (Or.inl ⟨by rfl, ?_⟩) (by assumption) ?_
      rotate_left
      · (intro w hSw; (try dsimp only at hSw); go_simp; try with_reducible rfl)
      try simp only [Act.put, List.getElem_toArray, List.getElem_cons_zero, List.getElem_cons_succ, List.setIfInBounds_toArray, List.set_cons_zero, List.set_cons_succ]
      refine wpAnyK_take (i := 10) (v := ?_) rfl (by kernel_rfl) (fun _ _ _ h => h) (Or.inl ⟨by rfl, ?_⟩) (by assumption) ?_
      rotate_left
      · (intro w hSw; (try dsimp only at hSw); go_simp; try with_reducible rfl)
      try simp only [Act.put, List.getElem_toArray, List.getElem_cons_zero, List.getElem_cons_succ, List.setIfInBounds_toArray, List.set_cons_zero, List.set_cons_succ]
      refine wpAnyK_step (i := 11) rfl (by kernel_rfl) (fun K hK => ?_)
      go_simp
      with_reducible refine (below7 a1 n1 cap1 z1 p1 i1 HG.out.1 a2 n2 cap2 z2 p2 i2 HG.out.2 a9 n9 cap9 z9 p9 i9 H9.out.2.1 L hL2 _ Q0.out.1.f.row Q0.out.1.g.row Q0.out.1.h.row).mono ?_
      rintro e y1 ⟨ok, rfl, hb, hbel⟩
      have HBL := Lib.hid hbel
      have Q1 := Lib.hid (And.intro (Q0.out.1.call hb) (Q0.out.2.trans (hb.mono Q0.out.2.size)))
      clear hb hbel
      refine hK.out _ _ (KS.out _ Q1.out.1) (fun hHeld1 => ?_)
      clear hK K hHeld0
      try simp only [Act.put, List.getElem_toArray, List.getElem_cons_zero, List.getElem_cons_succ, List.setIfInBounds_toArray, List.set_cons_zero, List.set_cons_succ]
      refine wpAnyK_take (i := 12) (v := ?_) rfl (by kernel_rfl) (fun _ _ _ h => h) (Or.inl ⟨by rfl, ?_⟩) (by assumption) ?_
      rotate_left
      · (intro w hSw; (try dsimp only at hSw); go_simp; try with_reducible rfl)
      try simp only [Act.put, List.getElem_toArray, List.getElem_cons_zero, List.getElem_cons_succ, List.setIfInBounds_toArray, List.set_cons_zero, List.set_cons_succ]
      have YR := Lib.hid (FX.out _ (BV.out.trans (Q1.out.2.mono BV.out.size))).2
      obtain ⟨r0, r1, r2, r3, r4, r5⟩ := YR.out
      refine wpAnyK_step (i := 13) rfl (by kernel_rfl) (fun K hK => ?_)
      go_simp
      refine hK.out _ _ (KS.out _ (LAY.out _ (.slice a9 n9 cap9) (.int .i64 p9) (.int .i64 i9) Q1.out.1)) (fun hHeld9 => ?_)
      clear hK K hHeld1
      try simp only [Act.put, List.getElem_toArray, List.getElem_cons_zero, List.getElem_cons_succ, List.setIfInBounds_toArray, List.set_cons_zero, List.set_cons_succ]
      refine wpAnyK_done (by kernel_rfl) ?_
      simp only [List.drop_succ_cons, List.drop_zero]
      clear hHeld9
      have HP := Lib.hid (guess_post (E := (eConv z1 p1 i1 z2 p2 i2)) (far := fr = 800 + 2 * L) (ok := ok) (b := w.heap.size + 2) (p := p9) (inc := i9) (HB2.out.trans (BV.out.mono HB2.out.size)) (by omega) Q1.out.2 (XV.out.row.under Q1.out.2) (fun x hx => by have := X9.out x hx; have := HSZ.out; exact ⟨by omega, by omega⟩) H9.out.1 (fun _ => H9.out.2.2) (fun _ hc => by
        by_cases g9 : Good z9 p9 i9
        · exact (HBL.out g9).2 (guess_below HG.out.1 HG.out.2 (H9.out.2.2.1 g9) hL2)
        · exact absurd hc (H9.out.2.2.2 g9)))
      go_wp2_with fail
      exact bodyPost_ret (v := .tuple #[curV a9 n9 cap9 p9 i9, .bool ok]) (by simp [results, Try.results74, go_sem, r0, r1, r2]) rfl HP.out

end Go.Proofs.Ytcbocglakielnaa
