/- Of the document's closure: Check. By the verifier's side. -/
import Derived.Test.YtjjaaknjdmijbaaQdRCl2
import Derived.Test.YtjjaaknjdmijbaaQdRCl4
import Derived.Test.YtjjaaknjdmijbaaQdCloZ
import Derived.Test.YtjjaaknjdmijbaaQdCloFCloH
import Derived.Test.YtjjaaknjdmijbaaQdRefP
import Derived.Test.YtjjaaknjdmijbaaQdRefV
namespace Go.Proofs.Ytjjaaknjdmijbaa
open Go.RowKit
set_option linter.unusedSimpArgs false
set_option linter.unusedVariables false

/-- fits, at whatever tick. -/
theorem rfits9 (a1 : Addr) (n1 cap1 : Nat) (z1 : List Int) (p1 : Nat) (i1 : Int) (a2 : Addr) (n2 cap2 : Nat) (z2 : List Int) (p2 : Nat) (i2 : Int) (L F t : Nat) (g1 : Good z1 p1 i1) (g2 : Good z2 p2 i2) (hL : L ≤ 120) (hF : F ≤ 100000) (ht2 : t ≤ 100000) (s : Int) (b : Bool) (hb : b = true ↔ Fit9 z1 p1 i1 z2 p2 i2 L F t s) (w : World) (h1 : RowZ w (some a1) n1 cap1 z1) (h2 : RowZ w (some a2) n2 cap2 z2) :
    Calls Try.prog 115 #[curV (some a1) n1 cap1 p1 i1, curV (some a2) n2 cap2 p2 i2, .int .i64 L, .int .i64 F, .int .i64 t, .int .i64 s] w (Says (.bool b) w) := by
  by_cases ht : t = 0
  · subst ht
    have e : (s == 0) = b := by
      have k : Fit9 z1 p1 i1 z2 p2 i2 L F 0 s ↔ s = 0 := ⟨fun h => by
        rcases h with ⟨_, h⟩ | ⟨h, _⟩ | ⟨k, _, h1, h2, _⟩
        · exact h
        · exact absurd rfl h
        · omega, fun h => .inl ⟨rfl, h⟩⟩
      rw [k] at hb
      cases b with
      | true => simpa using hb.1 rfl
      | false =>
        have : ¬ s = 0 := fun h => by have := hb.2 h; cases this
        simpa using this
    rw [← e]
    exact rfits9_0 a1 n1 cap1 z1 p1 i1 a2 n2 cap2 z2 p2 i2 L F g2 s w h1 h2
  · by_cases hs : s = 0
    · subst hs
      obtain ⟨bt, hbt⟩ : ∃ b : Bool, b = true ↔ t < F := ⟨decide (t < F), by simp⟩
      obtain ⟨b1, hb1⟩ : ∃ b : Bool, b = true ↔ ¬ InfC z1 := by
        by_cases h : InfC z1
        · exact ⟨false, ⟨fun q => (by cases q), fun k => absurd h k⟩⟩
        · exact ⟨true, ⟨fun _ => h, fun _ => rfl⟩⟩
      obtain ⟨b2, hb2⟩ : ∃ b : Bool, b = true ↔ ¬ InfC z2 := by
        by_cases h : InfC z2
        · exact ⟨false, ⟨fun q => (by cases q), fun k => absurd h k⟩⟩
        · exact ⟨true, ⟨fun _ => h, fun _ => rfl⟩⟩
      have e : ((atC z1 p1 i1 t == atC z2 p2 i2 t) && (bt || (atC z2 p2 i2 t == infV) || (b1 && b2 && (i1 * ((L / p1 : Nat) : Int) == i2 * ((L / p2 : Nat) : Int))))) = b := by
        have k : Fit9 z1 p1 i1 z2 p2 i2 L F t 0 ↔ (atC z1 p1 i1 t = atC z2 p2 i2 t ∧ (t < F ∨ atC z2 p2 i2 t = infV ∨ (¬ InfC z1 ∧ ¬ InfC z2 ∧ i1 * ((L / p1 : Nat) : Int) = i2 * ((L / p2 : Nat) : Int)))) := ⟨fun h => by
          rcases h with ⟨h, _⟩ | ⟨_, _, h⟩ | ⟨k, h, h1, _⟩
          · exact absurd h ht
          · exact h
          · omega, fun h => .inr (.inl ⟨ht, rfl, h⟩)⟩
        rw [k, ← hbt, ← hb1, ← hb2] at hb
        rw [Bool.eq_iff_iff, hb]
        simp only [Bool.and_eq_true, Bool.or_eq_true, beq_iff_eq]
        constructor
        · rintro ⟨h1, (h | h) | ⟨⟨h, h'⟩, h''⟩⟩
          · exact ⟨h1, .inl h⟩
          · exact ⟨h1, .inr (.inl h)⟩
          · exact ⟨h1, .inr (.inr ⟨h, h', h''⟩)⟩
        · rintro ⟨h1, h | h | ⟨h, h', h''⟩⟩
          · exact ⟨h1, .inl (.inl h)⟩
          · exact ⟨h1, .inl (.inr h)⟩
          · exact ⟨h1, .inr ⟨⟨h, h'⟩, h''⟩⟩
      rw [← e]
      exact rfits9_s a1 n1 cap1 z1 p1 i1 a2 n2 cap2 z2 p2 i2 L F t g1 g2 hL (by omega) ht2 _ bt _ b1 b2 _ rfl hbt rfl hb1 hb2 rfl w h1 h2
    · exact rfits9_m a1 n1 cap1 z1 p1 i1 a2 n2 cap2 z2 p2 i2 L F t g2 hF (by omega) ht2 s hs b hb w h1 h2

theorem ratMost9 (a1 : Option Addr) (n1 cap1 : Nat) (z1 : List Int) (p1 : Nat) (i1 : Int) (g1 : Good z1 p1 i1) (a2 : Option Addr) (n2 cap2 : Nat) (z2 : List Int) (p2 : Nat) (i2 : Int) (g2 : Good z2 p2 i2) (b : Bool) (hb : b = true ↔ ∀ t, ole (eC z1 p1 i1 t) (eC z2 p2 i2 t)) (w : World) (h1 : RowZ w a1 n1 cap1 z1) (h2 : RowZ w a2 n2 cap2 z2) :
    Calls Try.prog 68 #[curV a1 n1 cap1 p1 i1, curV a2 n2 cap2 p2 i2] w (Says (.bool b) w) := by
  obtain ⟨t, ok, hE⟩ := excP_ex (dC z1 p1 i1 z2 p2 i2)
  have e : (!ok) = b := by
    cases b with
    | true => rw [(hE.unique (excP_of (hb.1 rfl))).2]; rfl
    | false =>
      cases ok with
      | true => rfl
      | false =>
        rcases hE with ⟨h, _⟩ | ⟨_, _, h⟩
        · cases h
        · exact absurd (hb.2 (ole_of_d g1 g2 h)) (by decide)
  rw [← e]
  exact ratMost_ok a1 n1 cap1 z1 p1 i1 g1 a2 n2 cap2 z2 p2 i2 g2 t ok w h1 h2 hE

/-- While the document checks a certificate: the curve in normal form, the result. -/
structure DK (w : World) (a2 : Option Addr) (n2 cap2 : Nat) (hs : List Int) (r : Nat) (knc : Int) (fr : Int) (at1 : Option Addr) (m mc : Nat) (ts : List Int) (A B : Nat) (a3 : Option Addr) (n3 cap3 : Nat) (ys : List Int) (q : Nat) (jnc : Int) (u : World) : Prop where
  cb : P5 u (w.heap.size + 1) (.slice a2 n2 cap2) (.int .i64 r) (.int .i64 knc) (.int .i64 fr) (.slice at1 m mc)
  x : Bx u A a3 n3 cap3 q jnc ys
  y : Bx u B a2 n2 cap2 r knc hs
  r3 : RowZ u at1 m mc ts
  below : Below w.heap.size w u
theorem DK.call {w u v : World} {a2 : Option Addr} {n2 cap2 : Nat} {hs : List Int} {r : Nat} {knc : Int} {fr : Int} {at1 : Option Addr} {m mc : Nat} {ts : List Int} {A B : Nat} {a3 : Option Addr} {n3 cap3 : Nat} {ys : List Int} {q : Nat} {jnc : Int} (h : DK w a2 n2 cap2 hs r knc fr at1 m mc ts A B a3 n3 cap3 ys q jnc u) (hb : Below u.heap.size u v) : DK w a2 n2 cap2 hs r knc fr at1 m mc ts A B a3 n3 cap3 ys q jnc v := ⟨h.cb.below hb, h.x.under hb, h.y.under hb, h.r3.under hb, h.below.trans (hb.mono h.below.size)⟩

set_option maxRecDepth 100000 in
set_option maxHeartbeats 6400000 in
theorem rcheck9 (a : Option Addr) (n cap : Nat) (zs : List Int) (p : Nat) (inc : Int) (a2 : Option Addr) (n2 cap2 : Nat) (hs : List Int) (r : Nat) (knc : Int) (fr : Int) (at1 : Option Addr) (m mc : Nat) (ts : List Int) (g : Good zs p inc) {ys : List Int} {q : Nat} {jnc : Int} (hn : NormC zs p inc ys q jnc) (k : Good hs r knc) (hfr : In64 fr) (b : Bool) (hb : b = true ↔ CheckIs ys q jnc hs r knc fr ts) (w : World) (h1 : RowZ w a n cap zs) (h2 : RowZ w a2 n2 cap2 hs) (h3 : RowZ w at1 m mc ts) :
    Calls Try.prog 52 #[curV a n cap p inc, .agg #[.slice a2 n2 cap2, .int .i64 r, .int .i64 knc, .int .i64 fr, .slice at1 m mc]] w (Says (.bool b) w) := by
  have G0 := Lib.hid g
  have HN := Lib.hid hn
  have GY := Lib.hid (hn.good g)
  have NY := Lib.hid (norm_twice hn g)
  have K0 := Lib.hid k
  have HB := Lib.hid hb
  have LN := Lib.hid (show ts.length = m ∧ m ≤ 140737488355328 from ⟨h3.len, h3.sm⟩)
  obtain ⟨hd, rfl, _⟩ := h2.at 0 (by have := h2.len; have := k.p1; have := k.p3; omega)
  obtain ⟨W, hW⟩ : ∃ W, (w.alloc (.cells #[.slice a n cap, .int .i64 p, .int .i64 inc] 24)).alloc (.cells #[.slice (some hd) n2 cap2, .int .i64 r, .int .i64 knc, .int .i64 fr, .slice at1 m mc] 59) = W := ⟨_, rfl⟩
  have hB : Below w.heap.size w W := by rw [← hW]; exact ((Below.refl _ _).alloc (Nat.le_refl _) _).alloc (by simp) _
  have FB := Lib.hid (show Cur3 W w.heap.size (.slice a n cap) (.int .i64 p) (.int .i64 inc) by rw [← hW]; exact (Cur3.new w _ _ _ _).alloc _)
  have CB := Lib.hid (show P5 W (w.heap.size + 1) (.slice (some hd) n2 cap2) (.int .i64 r) (.int .i64 knc) (.int .i64 fr) (.slice at1 m mc) by
    rw [← hW]
    have := p5_new (w.alloc (.cells #[.slice a n cap, .int .i64 p, .int .i64 inc] 24)) (.slice (some hd) n2 cap2) (.int .i64 r) (.int .i64 knc) (.int .i64 fr) (.slice at1 m mc) 59
    rwa [show (w.alloc (.cells #[.slice a n cap, .int .i64 p, .int .i64 inc] 24)).heap.size = w.heap.size + 1 by simp] at this)
  have RR := Lib.hid (And.intro (h1.under hB) (And.intro (h2.under hB) (h3.under hB)))
  have BL := Lib.hid hB
  have HW := Lib.hid hW
  obtain ⟨c0, c1, c2, c3, c4, c5⟩ := FB.out
  clear g hn k hb h1 h2 h3 hB hW
  go_enter Try.func52, Try.ntmps52
  go_upto_region 1 with fail
  try rw [HW.out]
  go_wp2_with fail
  clear c0 c1 c2 c3 c4 c5
  refine (rnormal_ok a n cap zs p inc G0.out _ RR.out.1).mono ?_
  rintro e v1 ⟨a3, n3, cap3, x1, q1, k1, rfl, hb, hr, hnn, hx⟩
  obtain ⟨rfl, rfl, rfl⟩ := hnn.canon G0.out G0.out HN.out (fun _ => rfl)
  obtain ⟨ya, rfl, _⟩ := hr.at 0 (by have := hr.len; have := GY.out.p1; have := GY.out.p3; omega)
  obtain ⟨W1, hw⟩ : ∃ u, v1.alloc (.cells #[.slice (some ya) n3 cap3, .int .i64 q1, .int .i64 k1] 24) = u := ⟨_, rfl⟩
  have hz : Below W.heap.size W W1 := by rw [← hw]; exact hb.trans ((below_box _).mono hb.size)
  obtain ⟨A, hA⟩ : ∃ H, v1.heap.size = H := ⟨_, rfl⟩
  have XA := Lib.hid (show Bx W1 A (some ya) n3 cap3 q1 k1 x1 by rw [← hw, ← hA]; exact Bx.new hr)
  have CB1 := Lib.hid (CB.out.below hz)
  have RR1 := Lib.hid (And.intro (RR.out.2.1.under hz) (RR.out.2.2.under hz))
  have BL1 := Lib.hid (BL.out.trans (hz.mono BL.out.size))
  have HW1 := Lib.hid hw
  have HAE := Lib.hid hA
  clear hb hr hnn hx hz hw hA FB CB RR BL HW
  go_upto_region 2 with fail
  try rw [HW1.out]
  try rw [HAE.out]
  obtain ⟨⟨c0, c1, c2, f0, f1, f2⟩, c3, c4, f3, f4⟩ := CB1.out
  obtain ⟨W2, hw⟩ : ∃ u, W1.alloc (.cells #[.slice (some hd) n2 cap2, .int .i64 r, .int .i64 knc] 24) = u := ⟨_, rfl⟩
  obtain ⟨B, hBE⟩ : ∃ H, W1.heap.size = H := ⟨_, rfl⟩
  have D0 := Lib.hid (show DK w (some hd) n2 cap2 hs r knc fr at1 m mc ts A B (some ya) n3 cap3 x1 q1 k1 W2 from by
    have hz : Below W1.heap.size W1 W2 := by rw [← hw]; exact below_box _
    exact ⟨CB1.out.below hz, XA.out.under hz, by rw [← hw, ← hBE]; exact Bx.new RR1.out.1, RR1.out.2.under hz, BL1.out.trans (hz.mono BL1.out.size)⟩)
  have HW2 := Lib.hid hw
  have HBB := Lib.hid hBE
  clear hw hBE
  go_upto_region 3 with fail
  try rw [HW2.out]
  try rw [HBB.out]
  clear c0 c1 c2 f0 f1 f2 c3 c4 f3 f4 HW1 HAE HW2 HBB CB1 XA RR1 BL1
  obtain ⟨h0, hh0⟩ : ∃ v, hs.getD 0 0 = v := ⟨_, rfl⟩
  have HH0 := Lib.hid hh0
  clear hh0
  have hn0 : 0 < n2 := by have := D0.out.y.row.len; have := K0.out.p1; have := K0.out.p3; omega
  have KS3 := Lib.hid (show ∀ u, DK w (some hd) n2 cap2 hs r knc fr at1 m mc ts A B (some ya) n3 cap3 x1 q1 k1 u → (u.cell? ⟨B, 0, none⟩ = some (.slice (some hd) n2 cap2) ∧ u.cell? ⟨B, 1, none⟩ = some (.int .i64 r) ∧ u.cell? ⟨B, 2, none⟩ = some (.int .i64 knc)) ∧ u.cell? hd = some (.int .i64 h0) ∧ Hid (DK w (some hd) n2 cap2 hs r knc fr at1 m mc ts A B (some ya) n3 cap3 x1 q1 k1 u) from fun u h => by
    refine ⟨⟨h.y.box.c0, h.y.box.c1, h.y.box.c2⟩, ?_, h⟩
    obtain ⟨x, hx, hc⟩ := h.y.row.at 0 (by have := h.y.row.len; have := K0.out.p1; have := K0.out.p3; omega)
    cases hx
    rw [HH0.out, show hd.add 0 = hd by cases hd; rfl] at hc
    exact hc)
  have Q0 := Lib.hid (D0.out.call (Below.refl _ _).drew)
  have KI := Lib.hid (show In64 (r : Int) ∧ In64 knc from ⟨⟨by omega, by have := K0.out.p2; omega⟩, by have := K0.out.i0; omega, by have := K0.out.i1; omega⟩)
  go_cut [38] (fun s38 wx => ∃ bb : Bool, s38 = .bool bb ∧ Hid (bb = false ↔ NormC hs r knc hs r knc ∧ h0 = 0) ∧ Hid (DK w (some hd) n2 cap2 hs r knc fr at1 m mc ts A B (some ya) n3 cap3 x1 q1 k1 wx))
  case first =>
    refine wp_region_keeps (fun u => (u.cell? ⟨B, 0, none⟩ = some (.slice (some hd) n2 cap2) ∧ u.cell? ⟨B, 1, none⟩ = some (.int .i64 r) ∧ u.cell? ⟨B, 2, none⟩ = some (.int .i64 knc)) ∧ u.cell? hd = some (.int .i64 h0) ∧ Hid (DK w (some hd) n2 cap2 hs r knc fr at1 m mc ts A B (some ya) n3 cap3 x1 q1 k1 u)) 20 1 (by kernel_rfl) (by kernel_rfl) (KS3.out _ Q0.out) (fun hHeld0 => ?_)
    refine wpAnyK_take (i := 0) (v := ?_) rfl (by kernel_rfl) (fun _ _ _ h => h) (Or.inl ⟨by rfl, ?_⟩) (by assumption) ?_
    rotate_left
    · (intro w hSw; (try dsimp only at hSw); go_simp; try with_reducible rfl)
    try simp only [Act.put, List.getElem_toArray, List.getElem_cons_zero, List.getElem_cons_succ, List.setIfInBounds_toArray, List.set_cons_zero, List.set_cons_succ]
    refine wpAnyK_take (i := 1) (v := ?_) rfl (by kernel_rfl) (fun _ _ _ h => h) (Or.inl ⟨by rfl, ?_⟩) (by assumption) ?_
    rotate_left
    · (intro w hSw; (try dsimp only at hSw); go_simp; try with_reducible rfl)
    try simp only [Act.put, List.getElem_toArray, List.getElem_cons_zero, List.getElem_cons_succ, List.setIfInBounds_toArray, List.set_cons_zero, List.set_cons_succ]
    refine wpAnyK_take (i := 2) (v := ?_) rfl (by kernel_rfl) (fun _ _ _ h => h) (Or.inl ⟨by rfl, ?_⟩) (by assumption) ?_
    rotate_left
    · (intro w hSw; (try dsimp only at hSw); go_simp; try with_reducible rfl)
    try simp only [Act.put, List.getElem_toArray, List.getElem_cons_zero, List.getElem_cons_succ, List.setIfInBounds_toArray, List.set_cons_zero, List.set_cons_succ]
    refine wpAnyK_take (i := 3) (v := ?_) rfl (by kernel_rfl) (fun _ _ _ h => h) (Or.inl ⟨by rfl, ?_⟩) (by assumption) ?_
    rotate_left
    · (intro w hSw; (try dsimp only at hSw); go_simp; try with_reducible rfl)
    try simp only [Act.put, List.getElem_toArray, List.getElem_cons_zero, List.getElem_cons_succ, List.setIfInBounds_toArray, List.set_cons_zero, List.set_cons_succ]
    refine wpAnyK_step (i := 4) rfl (by kernel_rfl) (fun K hK => ?_)
    go_simp
    with_reducible refine (rvalid_any (some hd) n2 cap2 hs r knc KI.out.1 KI.out.2 true ((okC_iff _ _ _).2 K0.out) _ Q0.out.y.row).mono ?_
    rintro e y1 ⟨rfl, hb⟩
    have Q1 := Lib.hid (Q0.out.call hb)
    clear hb
    refine hK.out _ _ (KS3.out _ Q1.out) (fun hHeld1 => ?_)
    clear hK K hHeld0
    try simp only [Act.put, List.getElem_toArray, List.getElem_cons_zero, List.getElem_cons_succ, List.setIfInBounds_toArray, List.set_cons_zero, List.set_cons_succ]
    refine wpAnyK_take (i := 5) (v := ?_) rfl (by kernel_rfl) (fun _ _ _ h => h) (Or.inl ⟨by rfl, ?_⟩) (by assumption) ?_
    rotate_left
    · (intro w hSw; (try dsimp only at hSw); go_simp; try with_reducible rfl)
    try simp only [Act.put, List.getElem_toArray, List.getElem_cons_zero, List.getElem_cons_succ, List.setIfInBounds_toArray, List.set_cons_zero, List.set_cons_succ]
    refine wpAnyK_take (i := 6) (v := ?_) rfl (by kernel_rfl) (fun _ _ _ h => h) (Or.inl ⟨by rfl, ?_⟩) (by assumption) ?_
    rotate_left
    · (intro w hSw; (try dsimp only at hSw); go_simp; try with_reducible rfl)
    try simp only [Act.put, List.getElem_toArray, List.getElem_cons_zero, List.getElem_cons_succ, List.setIfInBounds_toArray, List.set_cons_zero, List.set_cons_succ]
    refine wpAnyK_take (i := 7) (v := ?_) rfl (by kernel_rfl) (fun _ _ _ h => h) (Or.inl ⟨by rfl, ?_⟩) (by assumption) ?_
    rotate_left
    · (intro w hSw; (try dsimp only at hSw); go_simp; try with_reducible rfl)
    try simp only [Act.put, List.getElem_toArray, List.getElem_cons_zero, List.getElem_cons_succ, List.setIfInBounds_toArray, List.set_cons_zero, List.set_cons_succ]
    refine wpAnyK_take (i := 8) (v := ?_) rfl (by kernel_rfl) (fun _ _ _ h => h) (Or.inl ⟨by rfl, ?_⟩) (by assumption) ?_
    rotate_left
    · (intro w hSw; (try dsimp only at hSw); go_simp; try with_reducible rfl)
    try simp only [Act.put, List.getElem_toArray, List.getElem_cons_zero, List.getElem_cons_succ, List.setIfInBounds_toArray, List.set_cons_zero, List.set_cons_succ]
    refine wpAnyK_take (i := 9) (v := ?_) rfl (by kernel_rfl) (fun _ _ _ h => h) (Or.inl ⟨by rfl, ?_⟩) (by assumption) ?_
    rotate_left
    · (intro w hSw; (try dsimp only at hSw); go_simp; try with_reducible rfl)
    try simp only [Act.put, List.getElem_toArray, List.getElem_cons_zero, List.getElem_cons_succ, List.setIfInBounds_toArray, List.set_cons_zero, List.set_cons_succ]
    refine wpAnyK_step (i := 10) rfl (by kernel_rfl) (fun K hK => ?_)
    go_simp
    with_reducible refine (rleast_any (some hd) n2 cap2 hs r knc K0.out _ Q1.out.y.row).mono ?_
    rintro e y2 ⟨a6, n6, cap6, x6, r6, k6, rfl, hb, hr6, hn6, _⟩
    have Q2 := Lib.hid (Q1.out.call hb)
    have R6 := Lib.hid hr6
    have N6 := Lib.hid hn6
    clear hb hr6 hn6
    refine hK.out _ _ (KS3.out _ Q2.out) (fun hHeld2 => ?_)
    clear hK K hHeld1
    try simp only [Act.put, List.getElem_toArray, List.getElem_cons_zero, List.getElem_cons_succ, List.setIfInBounds_toArray, List.set_cons_zero, List.set_cons_succ]
    obtain ⟨sb, hsb⟩ : ∃ b, sameB hs r knc x6 r6 k6 = b := ⟨_, rfl⟩
    have HSB := Lib.hid hsb
    clear hsb
    refine wpAnyK_step (i := 11) rfl (by kernel_rfl) (fun K hK => ?_)
    go_simp
    with_reducible refine (rsame_any (some hd) n2 cap2 hs r knc a6 n6 cap6 x6 r6 k6 sb HSB.out _ Q2.out.y.row R6.out).mono ?_
    rintro e y3 ⟨rfl, hb⟩
    have Q3 := Lib.hid (Q2.out.call hb)
    clear hb
    refine hK.out _ _ (KS3.out _ Q3.out) (fun hHeld3 => ?_)
    clear hK K hHeld2
    try simp only [Act.put, List.getElem_toArray, List.getElem_cons_zero, List.getElem_cons_succ, List.setIfInBounds_toArray, List.set_cons_zero, List.set_cons_succ]
    cases sb with
    | false =>
      have HNO := Lib.hid (show ¬ NormC hs r knc hs r knc from fun h => by
        obtain ⟨e1, e2, e3⟩ := N6.out.canon K0.out K0.out h (fun _ => rfl)
        subst e1 e2 e3
        have := HSB.out
        rw [sameB_iff.2 ⟨rfl, rfl, rfl⟩] at this
        cases this)
      refine wpAnyK_take (i := 12) (v := ?_) rfl (by kernel_rfl) (fun _ _ _ h => h) (Or.inl ⟨by rfl, ?_⟩) (by assumption) ?_
      rotate_left
      · (intro w hSw; (try dsimp only at hSw); go_simp; try with_reducible rfl)
      try simp only [Act.put, List.getElem_toArray, List.getElem_cons_zero, List.getElem_cons_succ, List.setIfInBounds_toArray, List.set_cons_zero, List.set_cons_succ]
      refine wpAnyK_take (i := 13) (v := ?_) rfl (by kernel_rfl) (fun _ _ _ h => h) (Or.inl ⟨by rfl, ?_⟩) (by assumption) ?_
      rotate_left
      · (intro w hSw; (try dsimp only at hSw); go_simp; try with_reducible rfl)
      try simp only [Act.put, List.getElem_toArray, List.getElem_cons_zero, List.getElem_cons_succ, List.setIfInBounds_toArray, List.set_cons_zero, List.set_cons_succ]
      refine wpAnyK_take (i := 14) (v := ?_) rfl (by kernel_rfl) (fun _ _ _ h => h) (Or.inl ⟨by rfl, ?_⟩) (by assumption) ?_
      rotate_left
      · (intro w hSw; (try dsimp only at hSw); go_simp; try with_reducible rfl)
      try simp only [Act.put, List.getElem_toArray, List.getElem_cons_zero, List.getElem_cons_succ, List.setIfInBounds_toArray, List.set_cons_zero, List.set_cons_succ]
      refine wpAnyK_take (i := 15) (v := undef) rfl (by kernel_rfl) (fun _ _ _ h => h) (Or.inr ⟨by rfl, rfl⟩) (by assumption) ?_
      try simp only [Act.put, List.getElem_toArray, List.getElem_cons_zero, List.getElem_cons_succ, List.setIfInBounds_toArray, List.set_cons_zero, List.set_cons_succ]
      refine wpAnyK_take (i := 16) (v := undef) rfl (by kernel_rfl) (fun _ _ _ h => h) (Or.inr ⟨by rfl, rfl⟩) (by assumption) ?_
      try simp only [Act.put, List.getElem_toArray, List.getElem_cons_zero, List.getElem_cons_succ, List.setIfInBounds_toArray, List.set_cons_zero, List.set_cons_succ]
      refine wpAnyK_take (i := 17) (v := undef) rfl (by kernel_rfl) (fun _ _ _ h => h) (Or.inr ⟨by rfl, rfl⟩) (by assumption) ?_
      try simp only [Act.put, List.getElem_toArray, List.getElem_cons_zero, List.getElem_cons_succ, List.setIfInBounds_toArray, List.set_cons_zero, List.set_cons_succ]
      refine wpAnyK_take (i := 18) (v := undef) rfl (by kernel_rfl) (fun _ _ _ h => h) (Or.inr ⟨by rfl, rfl⟩) (by assumption) ?_
      try simp only [Act.put, List.getElem_toArray, List.getElem_cons_zero, List.getElem_cons_succ, List.setIfInBounds_toArray, List.set_cons_zero, List.set_cons_succ]
      refine wpAnyK_take (i := 19) (v := undef) rfl (by kernel_rfl) (fun _ _ _ h => h) (Or.inr ⟨by rfl, rfl⟩) (by assumption) ?_
      try simp only [Act.put, List.getElem_toArray, List.getElem_cons_zero, List.getElem_cons_succ, List.setIfInBounds_toArray, List.set_cons_zero, List.set_cons_succ]
      refine wpAnyK_done (by kernel_rfl) ?_
      simp only [List.drop_succ_cons, List.drop_zero]
      clear hHeld3
      go_wp2_with fail
      go_meet
      exact ⟨true, rfl, ⟨fun h => (by cases h), fun h => absurd h.1 HNO.out⟩, Q3⟩
    | true =>
      have HYES := Lib.hid (show NormC hs r knc hs r knc from by
        obtain ⟨e1, e2, e3⟩ := sameB_iff.1 HSB.out
        have hn := N6.out
        have e2 : r = r6 := by omega
        rw [← e1, ← e2, ← e3] at hn
        exact hn)
      refine wpAnyK_take (i := 12) (v := ?_) rfl (by kernel_rfl) (fun _ _ _ h => h) (Or.inl ⟨by rfl, ?_⟩) (by assumption) ?_
      rotate_left
      · (intro w hSw; (try dsimp only at hSw); go_simp; try with_reducible rfl)
      try simp only [Act.put, List.getElem_toArray, List.getElem_cons_zero, List.getElem_cons_succ, List.setIfInBounds_toArray, List.set_cons_zero, List.set_cons_succ]
      refine wpAnyK_take (i := 13) (v := ?_) rfl (by kernel_rfl) (fun _ _ _ h => h) (Or.inl ⟨by rfl, ?_⟩) (by assumption) ?_
      rotate_left
      · (intro w hSw; (try dsimp only at hSw); go_simp; try with_reducible rfl)
      try simp only [Act.put, List.getElem_toArray, List.getElem_cons_zero, List.getElem_cons_succ, List.setIfInBounds_toArray, List.set_cons_zero, List.set_cons_succ]
      refine wpAnyK_take (i := 14) (v := ?_) rfl (by kernel_rfl) (fun _ _ _ h => h) (Or.inl ⟨by rfl, ?_⟩) (by assumption) ?_
      rotate_left
      · (intro w hSw; (try dsimp only at hSw); go_simp; try with_reducible rfl)
      try simp only [Act.put, List.getElem_toArray, List.getElem_cons_zero, List.getElem_cons_succ, List.setIfInBounds_toArray, List.set_cons_zero, List.set_cons_succ]
      refine wpAnyK_take (i := 15) (v := ?_) rfl (by kernel_rfl) (fun _ _ _ h => h) (Or.inl ⟨by rfl, ?_⟩) (by assumption) ?_
      rotate_left
      · (intro w hSw; (try dsimp only at hSw); go_simp; try with_reducible rfl)
      try simp only [Act.put, List.getElem_toArray, List.getElem_cons_zero, List.getElem_cons_succ, List.setIfInBounds_toArray, List.set_cons_zero, List.set_cons_succ]
      refine wpAnyK_take (i := 16) (v := ?_) rfl (by kernel_rfl) (fun _ _ _ h => h) (Or.inl ⟨by rfl, ?_⟩) (by assumption) ?_
      rotate_left
      · (intro w hSw; (try dsimp only at hSw); go_simp; try with_reducible rfl)
      try simp only [Act.put, List.getElem_toArray, List.getElem_cons_zero, List.getElem_cons_succ, List.setIfInBounds_toArray, List.set_cons_zero, List.set_cons_succ]
      refine wpAnyK_take (i := 17) (v := ?_) rfl (by kernel_rfl) (fun _ _ _ h => h) (Or.inl ⟨by rfl, ?_⟩) (by assumption) ?_
      rotate_left
      · (intro w hSw; (try dsimp only at hSw); go_simp; try with_reducible rfl)
      try simp only [Act.put, List.getElem_toArray, List.getElem_cons_zero, List.getElem_cons_succ, List.setIfInBounds_toArray, List.set_cons_zero, List.set_cons_succ]
      refine wpAnyK_take (i := 18) (v := ?_) rfl (by kernel_rfl) (fun _ _ _ h => h) (Or.inl ⟨by rfl, ?_⟩) (by assumption) ?_
      rotate_left
      · (intro w hSw; (try dsimp only at hSw); go_simp; try with_reducible rfl)
      try simp only [Act.put, List.getElem_toArray, List.getElem_cons_zero, List.getElem_cons_succ, List.setIfInBounds_toArray, List.set_cons_zero, List.set_cons_succ]
      refine wpAnyK_take (i := 19) (v := ?_) rfl (by kernel_rfl) (fun _ _ _ h => h) (Or.inl ⟨by rfl, ?_⟩) (by assumption) ?_
      rotate_left
      · (intro w hSw; (try dsimp only at hSw); go_simp; try with_reducible rfl)
      try simp only [Act.put, List.getElem_toArray, List.getElem_cons_zero, List.getElem_cons_succ, List.setIfInBounds_toArray, List.set_cons_zero, List.set_cons_succ]
      refine wpAnyK_done (by kernel_rfl) ?_
      simp only [List.drop_succ_cons, List.drop_zero]
      clear hHeld3
      go_wp2_with fail
      go_meet
      exact ⟨h0 != 0, rfl, ⟨fun h => ⟨HYES.out, by simpa using h⟩, fun h => by simp [h.2]⟩, Q3⟩
  case rest =>
  obtain ⟨bb, rfl, HBB, D1⟩ := hcut
  obtain ⟨w5, rfl⟩ : ∃ u : World, u = wc := ⟨_, rfl⟩
  clear D0 Q0 KS3
  cases bb with
  | true =>
    have hbf : b = false := by
      cases hbb : b with
      | false => rfl
      | true =>
        have hc := HB.out.1 hbb
        have := HBB.out.2 ⟨hc.norm, HH0.out.symm.trans hc.zero⟩
        cases this
    subst hbf
    go_wp2_with fail
    go_ret
    exact ⟨rfl, D1.out.below⟩
  | false =>
    have HNZ := Lib.hid (HBB.out.1 rfl)
    obtain ⟨L, hL⟩ : ∃ L, comL q1 hs r = L := ⟨_, rfl⟩
    obtain ⟨F, hF⟩ : ∃ F, horC x1 q1 hs r L = F := ⟨_, rfl⟩
    have hLb : 1 ≤ L ∧ L ≤ 14400 := by
      have q1' := GY.out.p1; have q2 := GY.out.p2; have r1 := K0.out.p1; have r2 := K0.out.p2
      rw [← hL]
      refine ⟨comL_one q1' r1, ?_⟩
      by_cases hi : InfC hs
      · rw [comL_inf hi]; omega
      · rw [comL_fin hi]
        exact Nat.le_trans (Nat.mul_le_mul (Nat.div_le_self _ _) (Nat.le_refl _)) (Nat.le_trans (Nat.mul_le_mul q2 r2) (by omega))
    have hFb : F ≤ 20000 := by
      have := GY.out.few; have := K0.out.few
      rw [← hF]; unfold horC; omega
    have HLF := Lib.hid (And.intro hL hF)
    have HCI := Lib.hid (show b = true → L ≤ 120 ∧ fr = (F : Int) ∧ m = F + L ∧ (∀ t, ole (eC hs r knc t) (eC x1 q1 k1 t)) ∧ SubA (eC hs r knc) ∧ ∀ t, t < m → Fit9 x1 q1 k1 hs r knc L F t (ts.getD t 0) from fun h => by
      have hc := HB.out.1 h
      have e1 := hc.l; have e2 := hc.fr; have e3 := hc.len; have e4 := hc.att; have e5 := hc.z0
      rw [hL] at e1 e2 e3 e4
      rw [hF] at e2 e3 e4
      refine ⟨e1, e2, LN.out.1.symm.trans e3, hc.le, hc.sub, fun t ht => ?_⟩
      rcases Nat.eq_zero_or_pos t with rfl | h1
      · exact .inl ⟨rfl, e5⟩
      · have := (fit_catt GY.out K0.out h1 (ts.getD t 0)).2
        rw [hL, hF] at this
        exact this (e4 t h1 (by rw [LN.out.1]; exact ht)))
    have HCB := Lib.hid (show L ≤ 120 → fr = (F : Int) → m = F + L → (∀ t, ole (eC hs r knc t) (eC x1 q1 k1 t)) → SubA (eC hs r knc) → (∀ t, t < m → Fit9 x1 q1 k1 hs r knc L F t (ts.getD t 0)) → b = true from fun e1 e2 e3 e4 e5 e6 => by
      refine HB.out.2 ⟨HNZ.out.1, HH0.out.trans HNZ.out.2, by rw [hL]; exact e1, by rw [hL, hF]; exact e2, by rw [hL, hF]; exact LN.out.1.trans e3, e4, e5, ?_, ?_⟩
      · rcases e6 0 (by omega) with ⟨_, h⟩ | ⟨h, _⟩ | ⟨k, _, h1, h2, _⟩
        · exact h
        · exact absurd rfl h
        · omega
      · intro t h1 h2
        rw [LN.out.1] at h2
        have := (fit_catt GY.out K0.out h1 (ts.getD t 0)).1
        rw [hL, hF] at this
        rw [hL, hF]
        exact this (e6 t h2))
    clear hL hF HB
    obtain ⟨c0, c1, c2, c3, c4, c5⟩ := D1.out.x.box
    obtain ⟨d0, d1, d2, d3, d4, d5⟩ := D1.out.y.box
    go_wp2_with fail
    clear c0 c1 c2 c3 c4 c5 d0 d1 d2 d3 d4 d5
    refine (rcommon9 (some ya) n3 cap3 x1 q1 k1 GY.out (some hd) n2 cap2 hs r knc K0.out L F HLF.out.1 HLF.out.2 _ D1.out.x.row D1.out.y.row).mono ?_
    rintro e w6 ⟨rfl, hb⟩
    have D2 := Lib.hid (D1.out.call hb)
    clear hb D1
    by_cases hLL : L ≤ 120
    rotate_left
    · have hLi : (120 : Int) < (L : Int) := by omega
      have hbf : b = false := by
        cases hbb : b with
        | false => rfl
        | true => exact absurd (HCI.out hbb).1 hLL
      subst hbf
      go_wp2_with fail
      go_ret
      exact ⟨rfl, D2.out.below⟩
    have hLi : ¬ (120 : Int) < (L : Int) := by omega
    by_cases hfF : fr = (F : Int)
    rotate_left
    · have tv : (fr != (F : Int)) = true := by simpa using hfF
      have hbf : b = false := by
        cases hbb : b with
        | false => rfl
        | true => exact absurd (HCI.out hbb).2.1 hfF
      subst hbf
      obtain ⟨⟨c0, c1, c2, f0, f1, f2⟩, c3, c4, f3, f4⟩ := D2.out.cb
      go_wp2_with fail
      go_ret
      exact ⟨rfl, D2.out.below⟩
    have tv : (fr != (F : Int)) = false := by simpa using hfF
    obtain ⟨N, hN⟩ : ∃ N, F + L = N := ⟨_, rfl⟩
    have hsi : (F : Int) + (L : Int) = (N : Int) := by omega
    have hsw : IntKind.i64.wrap (N : Int) = (N : Int) := IntWalk.i64_in _ ⟨by omega, by omega⟩
    by_cases hmF : m = N
    rotate_left
    · have tm : ((m : Int) != (N : Int)) = true := by
        have : ¬ (m : Int) = (N : Int) := by omega
        simpa using this
      have hbf : b = false := by
        cases hbb : b with
        | false => rfl
        | true => exact absurd ((HCI.out hbb).2.2.1.trans hN) hmF
      subst hbf
      obtain ⟨⟨c0, c1, c2, f0, f1, f2⟩, c3, c4, f3, f4⟩ := D2.out.cb
      go_wp2_with fail
      go_ret
      exact ⟨rfl, D2.out.below⟩
    have tm : ((m : Int) != (N : Int)) = false := by
      have : (m : Int) = (N : Int) := by omega
      simpa using this
    obtain ⟨b1, hb1⟩ : ∃ b : Bool, b = true ↔ ∀ t, ole (eC hs r knc t) (eC x1 q1 k1 t) := by
      by_cases h : ∀ t, ole (eC hs r knc t) (eC x1 q1 k1 t)
      · exact ⟨true, ⟨fun _ => h, fun _ => rfl⟩⟩
      · exact ⟨false, ⟨fun q => (by cases q), fun k => absurd k h⟩⟩
    obtain ⟨b2, hb2⟩ : ∃ b : Bool, b = true ↔ SubA (eC hs r knc) := by
      by_cases h : SubA (eC hs r knc)
      · exact ⟨true, ⟨fun _ => h, fun _ => rfl⟩⟩
      · exact ⟨false, ⟨fun q => (by cases q), fun k => absurd k h⟩⟩
    have H1 := Lib.hid hb1
    have H2 := Lib.hid hb2
    clear hb1 hb2
    obtain ⟨⟨c0, c1, c2, f0, f1, f2⟩, c3, c4, f3, f4⟩ := D2.out.cb
    obtain ⟨d0, d1, d2, d3, d4, d5⟩ := D2.out.y.box
    obtain ⟨g0, g1, g2, g3, g4, g5⟩ := D2.out.x.box
    go_wp2_with fail
    clear c0 c1 c2 f0 f1 f2 c3 c4 f3 f4 d0 d1 d2 d3 d4 d5 g0 g1 g2 g3 g4 g5
    refine (ratMost9 (some hd) n2 cap2 hs r knc K0.out (some ya) n3 cap3 x1 q1 k1 GY.out b1 H1.out _ D2.out.y.row D2.out.x.row).mono ?_
    rintro e w7 ⟨rfl, hb⟩
    have D3 := Lib.hid (D2.out.call hb)
    clear hb D2
    cases b1 with
    | false =>
      have hbf : b = false := by
        cases hbb : b with
        | false => rfl
        | true => have := H1.out.2 (HCI.out hbb).2.2.2.1; cases this
      subst hbf
      go_wp2_with fail
      go_ret
      exact ⟨rfl, D3.out.below⟩
    | true =>
    obtain ⟨d0, d1, d2, d3, d4, d5⟩ := D3.out.y.box
    go_wp2_with fail
    clear d0 d1 d2 d3 d4 d5
    refine (radds9 (some hd) n2 cap2 hs r knc K0.out b2 H2.out _ D3.out.y.row).mono ?_
    rintro e w8 ⟨rfl, hb⟩
    have D4 := Lib.hid (D3.out.call hb)
    clear hb D3
    cases b2 with
    | false =>
      have hbf : b = false := by
        cases hbb : b with
        | false => rfl
        | true => have := H2.out.2 (HCI.out hbb).2.2.2.2.1; cases this
      subst hbf
      go_wp2_with fail
      go_ret
      exact ⟨rfl, D4.out.below⟩
    | true =>
    go_wp2_with fail
    go_loopw [10] (fun s10 wx => ∃ t : Nat, s10 = .int .i64 t ∧ t ≤ m ∧ Hid (∀ u, u < t → Fit9 x1 q1 k1 hs r knc L F u (ts.getD u 0)) ∧ Hid (DK w (some hd) n2 cap2 hs r knc fr at1 m mc ts A B (some ya) n3 cap3 x1 q1 k1 wx)) (fun s10 _ => m - (intOf s10).toNat)
    case atStart => exact ⟨0, by go_num, by omega, fun u hu => absurd hu (Nat.not_lt_zero u), D4⟩
    case round =>
      clear D4
      obtain ⟨t, rfl, htm, HFT, D5⟩ := hrel
      obtain ⟨w9, rfl⟩ : ∃ u : World, u = wr := ⟨_, rfl⟩
      obtain ⟨⟨c0, c1, c2, f0, f1, f2⟩, c3, c4, f3, f4⟩ := D5.out.cb
      by_cases hlt : t < m
      rotate_left
      · obtain rfl : t = m := by omega
        have hti : ¬ (t : Int) < (t : Int) := by omega
        obtain rfl : b = true := HCB.out hLL hfF (hmF.trans hN.symm) (H1.out.1 (by first | rfl | trivial)) (H2.out.1 (by first | rfl | trivial)) HFT.out
        go_wp2_with fail
        go_ret
        exact ⟨rfl, D5.out.below⟩
      have hti : (t : Int) < (m : Int) := by omega
      obtain ⟨ad, rfl, _⟩ := D5.out.r3.at t hlt
      obtain ⟨s, hs'⟩ : ∃ s, ts.getD t 0 = s := ⟨_, rfl⟩
      have HSS := Lib.hid hs'
      clear hs'
      obtain ⟨bf, hbf⟩ : ∃ b : Bool, b = true ↔ Fit9 x1 q1 k1 hs r knc L F t s := by
        by_cases h : Fit9 x1 q1 k1 hs r knc L F t s
        · exact ⟨true, ⟨fun _ => h, fun _ => rfl⟩⟩
        · exact ⟨false, ⟨fun q => (by cases q), fun k => absurd k h⟩⟩
      have H3 := Lib.hid hbf
      clear hbf
      have KS11 := Lib.hid (show ∀ u, DK w (some hd) n2 cap2 hs r knc fr (some ad) m mc ts A B (some ya) n3 cap3 x1 q1 k1 u → (u.cell? ⟨A, 0, none⟩ = some (.slice (some ya) n3 cap3) ∧ u.cell? ⟨A, 1, none⟩ = some (.int .i64 q1) ∧ u.cell? ⟨A, 2, none⟩ = some (.int .i64 k1)) ∧ (u.cell? ⟨B, 0, none⟩ = some (.slice (some hd) n2 cap2) ∧ u.cell? ⟨B, 1, none⟩ = some (.int .i64 r) ∧ u.cell? ⟨B, 2, none⟩ = some (.int .i64 knc)) ∧ (u.cell? ⟨w.heap.size + 1, 4, none⟩ = some (.slice (some ad) m mc) ∧ u.cell? (ad.add t) = some (.int .i64 s)) ∧ Hid (DK w (some hd) n2 cap2 hs r knc fr (some ad) m mc ts A B (some ya) n3 cap3 x1 q1 k1 u) from fun u h => by
        refine ⟨⟨h.x.box.c0, h.x.box.c1, h.x.box.c2⟩, ⟨h.y.box.c0, h.y.box.c1, h.y.box.c2⟩, ⟨h.cb.c4, ?_⟩, h⟩
        obtain ⟨x, hx, hc⟩ := h.r3.at t hlt
        cases hx
        rw [HSS.out] at hc
        exact hc)
      go_upto_region 11 with fail
      clear c0 c1 c2 f0 f1 f2 c3 c4 f3 f4
      have Q0 := Lib.hid (D5.out.call (Below.refl _ _).drew)
      refine wp_region_keeps (fun u => (u.cell? ⟨A, 0, none⟩ = some (.slice (some ya) n3 cap3) ∧ u.cell? ⟨A, 1, none⟩ = some (.int .i64 q1) ∧ u.cell? ⟨A, 2, none⟩ = some (.int .i64 k1)) ∧ (u.cell? ⟨B, 0, none⟩ = some (.slice (some hd) n2 cap2) ∧ u.cell? ⟨B, 1, none⟩ = some (.int .i64 r) ∧ u.cell? ⟨B, 2, none⟩ = some (.int .i64 knc)) ∧ (u.cell? ⟨w.heap.size + 1, 4, none⟩ = some (.slice (some ad) m mc) ∧ u.cell? (ad.add t) = some (.int .i64 s)) ∧ Hid (DK w (some hd) n2 cap2 hs r knc fr (some ad) m mc ts A B (some ya) n3 cap3 x1 q1 k1 u)) 11 1 (by kernel_rfl) (by kernel_rfl) (KS11.out _ Q0.out) (fun hHeld0 => ?_)
      refine wpAnyK_take (i := 0) (v := ?_) rfl (by kernel_rfl) (fun _ _ _ h => h) (Or.inl ⟨by rfl, ?_⟩) (by assumption) ?_
      rotate_left
      · (intro w hSw; (try dsimp only at hSw); go_simp; try with_reducible rfl)
      try simp only [Act.put, List.getElem_toArray, List.getElem_cons_zero, List.getElem_cons_succ, List.setIfInBounds_toArray, List.set_cons_zero, List.set_cons_succ]
      refine wpAnyK_take (i := 1) (v := ?_) rfl (by kernel_rfl) (fun _ _ _ h => h) (Or.inl ⟨by rfl, ?_⟩) (by assumption) ?_
      rotate_left
      · (intro w hSw; (try dsimp only at hSw); go_simp; try with_reducible rfl)
      try simp only [Act.put, List.getElem_toArray, List.getElem_cons_zero, List.getElem_cons_succ, List.setIfInBounds_toArray, List.set_cons_zero, List.set_cons_succ]
      refine wpAnyK_take (i := 2) (v := ?_) rfl (by kernel_rfl) (fun _ _ _ h => h) (Or.inl ⟨by rfl, ?_⟩) (by assumption) ?_
      rotate_left
      · (intro w hSw; (try dsimp only at hSw); go_simp; try with_reducible rfl)
      try simp only [Act.put, List.getElem_toArray, List.getElem_cons_zero, List.getElem_cons_succ, List.setIfInBounds_toArray, List.set_cons_zero, List.set_cons_succ]
      refine wpAnyK_take (i := 3) (v := ?_) rfl (by kernel_rfl) (fun _ _ _ h => h) (Or.inl ⟨by rfl, ?_⟩) (by assumption) ?_
      rotate_left
      · (intro w hSw; (try dsimp only at hSw); go_simp; try with_reducible rfl)
      try simp only [Act.put, List.getElem_toArray, List.getElem_cons_zero, List.getElem_cons_succ, List.setIfInBounds_toArray, List.set_cons_zero, List.set_cons_succ]
      refine wpAnyK_take (i := 4) (v := ?_) rfl (by kernel_rfl) (fun _ _ _ h => h) (Or.inl ⟨by rfl, ?_⟩) (by assumption) ?_
      rotate_left
      · (intro w hSw; (try dsimp only at hSw); go_simp; try with_reducible rfl)
      try simp only [Act.put, List.getElem_toArray, List.getElem_cons_zero, List.getElem_cons_succ, List.setIfInBounds_toArray, List.set_cons_zero, List.set_cons_succ]
      refine wpAnyK_take (i := 5) (v := ?_) rfl (by kernel_rfl) (fun _ _ _ h => h) (Or.inl ⟨by rfl, ?_⟩) (by assumption) ?_
      rotate_left
      · (intro w hSw; (try dsimp only at hSw); go_simp; try with_reducible rfl)
      try simp only [Act.put, List.getElem_toArray, List.getElem_cons_zero, List.getElem_cons_succ, List.setIfInBounds_toArray, List.set_cons_zero, List.set_cons_succ]
      refine wpAnyK_take (i := 6) (v := ?_) rfl (by kernel_rfl) (fun _ _ _ h => h) (Or.inl ⟨by rfl, ?_⟩) (by assumption) ?_
      rotate_left
      · (intro w hSw; (try dsimp only at hSw); go_simp; try with_reducible rfl)
      try simp only [Act.put, List.getElem_toArray, List.getElem_cons_zero, List.getElem_cons_succ, List.setIfInBounds_toArray, List.set_cons_zero, List.set_cons_succ]
      refine wpAnyK_take (i := 7) (v := ?_) rfl (by kernel_rfl) (fun _ _ _ h => h) (Or.inl ⟨by rfl, ?_⟩) (by assumption) ?_
      rotate_left
      · (intro w hSw; (try dsimp only at hSw); go_simp; try with_reducible rfl)
      try simp only [Act.put, List.getElem_toArray, List.getElem_cons_zero, List.getElem_cons_succ, List.setIfInBounds_toArray, List.set_cons_zero, List.set_cons_succ]
      refine wpAnyK_take (i := 8) (v := ?_) rfl (by kernel_rfl) (fun _ _ _ h => h) (Or.inl ⟨by rfl, ?_⟩) (by assumption) ?_
      rotate_left
      · (intro w hSw; (try dsimp only at hSw); go_simp; try with_reducible rfl)
      try simp only [Act.put, List.getElem_toArray, List.getElem_cons_zero, List.getElem_cons_succ, List.setIfInBounds_toArray, List.set_cons_zero, List.set_cons_succ]
      refine wpAnyK_take (i := 9) (v := ?_) rfl (by kernel_rfl) (fun _ _ _ h => h) (Or.inl ⟨by rfl, ?_⟩) (by assumption) ?_
      rotate_left
      · (intro w hSw; (try dsimp only at hSw); go_simp; try with_reducible rfl)
      try simp only [Act.put, List.getElem_toArray, List.getElem_cons_zero, List.getElem_cons_succ, List.setIfInBounds_toArray, List.set_cons_zero, List.set_cons_succ]
      refine wpAnyK_step (i := 10) rfl (by kernel_rfl) (fun K hK => ?_)
      go_simp
      with_reducible refine (rfits9 ya n3 cap3 x1 q1 k1 hd n2 cap2 hs r knc L F t GY.out K0.out hLL (by omega) (by omega) s bf H3.out _ Q0.out.x.row Q0.out.y.row).mono ?_
      rintro e y1 ⟨rfl, hb⟩
      have Q1 := Lib.hid (Q0.out.call hb)
      clear hb
      refine hK.out _ _ (KS11.out _ Q1.out) (fun hHeld1 => ?_)
      clear hK K hHeld0
      try simp only [Act.put, List.getElem_toArray, List.getElem_cons_zero, List.getElem_cons_succ, List.setIfInBounds_toArray, List.set_cons_zero, List.set_cons_succ]
      refine wpAnyK_done (by kernel_rfl) ?_
      simp only [List.drop_succ_cons, List.drop_zero]
      clear hHeld1
      cases bf with
      | false =>
        have hbf : b = false := by
          cases hbb : b with
          | false => rfl
          | true =>
            have := (HCI.out hbb).2.2.2.2.2 t hlt
            rw [HSS.out] at this
            have := H3.out.2 this
            cases this
        subst hbf
        go_wp2_with fail
        go_ret
        exact ⟨rfl, Q1.out.below⟩
      | true =>
        go_wp2_with fail
        go_roundw
        case rel => exact ⟨t + 1, by go_num, by omega, fun u hu => by
          by_cases e : u = t
          · subst e; rw [HSS.out]; exact H3.out.1 rfl
          · exact HFT.out u (by omega), Q1⟩
        case measure => simp [intOf]; omega

end Go.Proofs.Ytjjaaknjdmijbaa
