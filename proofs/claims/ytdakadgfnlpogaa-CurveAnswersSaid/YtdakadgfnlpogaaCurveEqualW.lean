/- The walk of CurveEqual. By the verifier's side. -/
import Derived.Test.YtdakadgfnlpogaaCurveNormalW
import Derived.Test.YtdakadgfnlpogaaCurX
import Derived.Test.YtdakadgfnlpogaaBent
import Derived.Test.YtdakadgfnlpogaaRefV
namespace Go.Proofs.Ytdakadgfnlpogaa
open Go.RowKit
set_option linter.unusedSimpArgs false

/-- Two valid curves that agree up to where both are periodic, and for two common periods more, are the same function. -/
theorem same_all {zs ys : List Int} {p q : Nat} {inc jnc : Int} (g : Good zs p inc) (k : Good ys q jnc) {M : Nat} (hM : M = max zs.length ys.length + 2 * (p / Nat.gcd p q * q)) (h : ∀ t, t < M → atC zs p inc t = atC ys q jnc t) : ∀ t, atC zs p inc t = atC ys q jnc t := by
  have hp1 := g.p1; have hp3 := g.p3; have hq1 := k.p1; have hq3 := k.p3
  have hf4 := g.few; have hk4 := k.few
  have hg := Nat.gcd_pos_of_pos_left q (show 0 < p by omega)
  obtain ⟨x, hx⟩ := Nat.gcd_dvd_left p q
  obtain ⟨y, hy⟩ := Nat.gcd_dvd_right p q
  have e1 : p / Nat.gcd p q = x := by
    have : Nat.gcd p q * x / Nat.gcd p q = x := Nat.mul_div_cancel_left x hg
    rwa [← hx] at this
  rw [e1] at hM
  obtain ⟨L, hL⟩ : ∃ L, x * q = L := ⟨_, rfl⟩
  rw [hL] at hM
  have hLp : L = y * p := by
    rw [← hL]
    have k1 : x * (Nat.gcd p q * y) = y * (Nat.gcd p q * x) := by rw [Nat.mul_left_comm, Nat.mul_left_comm y, Nat.mul_comm x y]
    rw [← hy, ← hx] at k1; exact k1
  have hx1 : 1 ≤ x := by
    rcases Nat.eq_zero_or_pos x with h0 | h0
    · rw [h0] at hx; omega
    · exact h0
  have hL1 : 1 ≤ L := by rw [← hL]; exact Nat.mul_pos hx1 hq1
  have hm1 : zs.length ≤ M := by omega
  have hm2 : ys.length ≤ M := by omega
  by_cases hf : zs.getD (zs.length - 1) 0 = infV
  · have a1 := h (zs.length - 1) (by omega)
    rw [atC_inf hf (Nat.le_refl _) (by omega)] at a1
    have hk := k.inf_at (t := zs.length - 1) (by omega) a1.symm
    intro t
    by_cases ht : t < M
    · exact h t ht
    · rw [atC_inf hf (by omega) (by omega), atC_inf hk (by omega) (by omega)]
  · have hk : ¬ ys.getD (ys.length - 1) 0 = infV := fun hx => by
      have a1 := h (ys.length - 1) (by omega)
      rw [atC_inf hx (Nat.le_refl _) (by omega)] at a1
      exact hf (g.inf_at (t := ys.length - 1) (by omega) a1)
    have P1 := ((g.per hf).mul y).mono (show zs.length - p ≤ max zs.length ys.length by omega)
    have P2 := ((k.per hk).mul x).mono (show ys.length - q ≤ max zs.length ys.length by omega)
    rw [← hLp] at P1
    rw [hL] at P2
    have hc : (y : Int) * inc = (x : Int) * jnc := by
      have b1 := P1 _ (Nat.le_refl _)
      have b2 := P2 _ (Nat.le_refl _)
      have b3 := h (max zs.length ys.length) (by omega)
      have b4 := h (max zs.length ys.length + L) (by omega)
      omega
    rw [← hc] at P2
    exact P1.ext P2 hL1 (fun t ht => h t (by omega))

theorem row_lt {w : World} {a : Option Addr} {n cap : Nat} {zs : List Int} (h : RowZ w a n cap zs) (hn : 1 ≤ n) : ∀ x, a = some x → x.block < w.heap.size := fun x hx => by
  obtain ⟨y, h1, h2⟩ := h.cell 0 (by omega)
  obtain rfl : x = y := Option.some.inj (hx.symm.trans h1)
  have := lt_of_cell h2
  rwa [add_block] at this
theorem ok_pos {most : Nat} {zs : List Int} {p : Nat} {inc : Int} (h : OkCur most zs p inc) : 1 ≤ zs.length := by have := h.good.p1; have := h.good.p3; omega

/-- What stands while the second curve is made: the reader, both boxes and both rows. -/
structure Ce (w : World) (b : Nat) (a : Option Addr) (n cap F : Nat) (a1 : Option Addr) (n1 cap1 : Nat) (p inc : Int) (zs : List Int) (G : Nat) (a2 : Option Addr) (n2 cap2 : Nat) (q jnc : Int) (ys : List Int) (wx : World) : Prop where
  held : Held w b a n cap wx
  bf : Cur3 wx F (.slice a1 n1 cap1) (.int .i64 p) (.int .i64 inc)
  rf : RowZ wx a1 n1 cap1 zs
  bg : Cur3 wx G (.slice a2 n2 cap2) (.int .i64 q) (.int .i64 jnc)
  rg : RowZ wx a2 n2 cap2 ys
  hb : b < w.heap.size
  hF : w.heap.size ≤ F
  hG : w.heap.size ≤ G
  hFG : ¬ F = G
  nf : ∀ x, a1 = some x → ¬ x.block = b ∧ ¬ x.block = G
  ng : ∀ x, a2 = some x → ¬ x.block = b
section
variable {w u v : World} {b : Nat} {a : Option Addr} {n cap F : Nat} {a1 : Option Addr} {n1 cap1 : Nat} {p inc : Int} {zs : List Int} {G : Nat} {a2 : Option Addr} {n2 cap2 : Nat} {q jnc : Int} {ys : List Int}
theorem Ce.call (h : Ce w b a n cap F a1 n1 cap1 p inc zs G a2 n2 cap2 q jnc ys u) (hs : SrcAt v b a n cap) (ha : Apart b u v) : Ce w b a n cap F a1 n1 cap1 p inc zs G a2 n2 cap2 q jnc ys v := by
  have h1 := h.hb; have h2 := h.hF; have h3 := h.hG
  exact ⟨h.held.call hs ha, h.bf.apart ha (by omega), h.rf.apart ha (fun x hx => (h.nf x hx).1), h.bg.apart ha (by omega), h.rg.apart ha h.ng, h1, h2, h3, h.hFG, h.nf, h.ng⟩
theorem Ce.below (h : Ce w b a n cap F a1 n1 cap1 p inc zs G a2 n2 cap2 q jnc ys u) (hb : Below u.heap.size u v) : Ce w b a n cap F a1 n1 cap1 p inc zs G a2 n2 cap2 q jnc ys v :=
  ⟨h.held.below hb, h.bf.below hb, h.rf.under hb, h.bg.below hb, h.rg.under hb, h.hb, h.hF, h.hG, h.hFG, h.nf, h.ng⟩
theorem Ce.drew (h : Ce w b a n cap F a1 n1 cap1 p inc zs G a2 n2 cap2 q jnc ys u) : Ce w b a n cap F a1 n1 cap1 p inc zs G a2 n2 cap2 q jnc ys u.drew :=
  h.below (Below.refl _ _).drew
theorem Ce.setG (h : Ce w b a n cap F a1 n1 cap1 p inc zs G a2 n2 cap2 q jnc ys u) {a3 : Option Addr} {n3 cap3 : Nat} {q' jnc' : Int} {xs : List Int} (hr : RowZ u a3 n3 cap3 xs) (hx : ∀ x, a3 = some x → ¬ x.block = b ∧ ¬ x.block = G) :
    Ce w b a n cap F a1 n1 cap1 p inc zs G a3 n3 cap3 q' jnc' xs (((u.setCell ⟨G, 0, none⟩ (.slice a3 n3 cap3)).setCell ⟨G, 1, none⟩ (.int .i64 q')).setCell ⟨G, 2, none⟩ (.int .i64 jnc')) := by
  have h1 := h.hb; have h2 := h.hF; have h3 := h.hG
  exact ⟨((h.held.set h1 (p := ⟨G, 0, none⟩) h3 _).set h1 (p := ⟨G, 1, none⟩) h3 _).set h1 (p := ⟨G, 2, none⟩) h3 _, ((h.bf.other h.hFG _ _).other h.hFG _ _).other h.hFG _ _,
    ((h.rf.store (fun x e _ => (h.nf x e).2) _ _).store (fun x e _ => (h.nf x e).2) _ _).store (fun x e _ => (h.nf x e).2) _ _, h.bg.set _ _ _,
    ((hr.store (fun x e _ => (hx x e).2) _ _).store (fun x e _ => (hx x e).2) _ _).store (fun x e _ => (hx x e).2) _ _, h1, h2, h3, h.hFG, h.nf, fun x e => (hx x e).1⟩
abbrev CeS (w : World) (b : Nat) (a : Option Addr) (n cap F : Nat) (a1 : Option Addr) (n1 cap1 : Nat) (p inc : Int) (zs : List Int) (G : Nat) (a2 : Option Addr) (n2 cap2 : Nat) (q jnc : Int) (ys : List Int) (wx : World) : Prop :=
  wx.cell? ⟨F, 0, none⟩ = some (.slice a1 n1 cap1) ∧ wx.cell? ⟨F, 1, none⟩ = some (.int .i64 p) ∧ wx.cell? ⟨F, 2, none⟩ = some (.int .i64 inc) ∧ Hid (Ce w b a n cap F a1 n1 cap1 p inc zs G a2 n2 cap2 q jnc ys wx)
theorem ce_s (h : Ce w b a n cap F a1 n1 cap1 p inc zs G a2 n2 cap2 q jnc ys u) : CeS w b a n cap F a1 n1 cap1 p inc zs G a2 n2 cap2 q jnc ys u := ⟨h.bf.c0, h.bf.c1, h.bf.c2, h⟩
end

set_option maxRecDepth 100000 in
set_option maxHeartbeats 6400000 in
theorem curveEqual_walk (W : World) (a : Option Addr) (n cap : Nat) (hrow : RowAt W a n cap) :
    Calls Try.prog 5 #[.slice a n cap] W fun e w' => e = .returned (.bool true) ∧ Below W.heap.size W w' := by
  have HR := Lib.hid hrow
  clear hrow
  go_enter Try.func5, Try.ntmps5
  go_wp2_with fail
  refine (new_any a n cap _ HR.out).mono ?_
  rintro e w1 ⟨rfl, hb1, hz1, ra, rn, rc, hs1⟩
  have HB1 := Lib.hid hb1
  have HS1 := Lib.hid hs1
  have Z1 := Lib.hid hz1
  clear hb1 hz1 hs1
  go_wp2_with fail
  refine (curve_any 6 (by omega) (by omega) _ ra rn rc _ HS1.out).mono ?_
  rintro e w2 ⟨a1, n1, cap1, zs, p, inc, rfl, hs2, he2, hr2, ok, hx2⟩
  have OK := Lib.hid ok
  have HS2 := Lib.hid hs2
  have HR2 := Lib.hid hr2
  have HX2 := Lib.hid (show ∀ x, a1 = some x → ¬ x.block = W.heap.size from fun x hx => by have := hx2 x hx; have := Z1.out; omega)
  have HB2 := Lib.hid (HB1.out.trans (he2.below (Nat.le_refl _) HB1.out.size))
  have hsz2 := Lib.hid he2.size
  clear hs2 he2 hr2 ok hx2
  go_wp2_with fail
  refine (curve_any 6 (by omega) (by omega) _ ra rn rc _ HS2.out).mono ?_
  rintro e w3 ⟨a2, n2, cap2, ys, q, jnc, rfl, hs3, he3, hr3, ok3, hx3⟩
  have OK3 := Lib.hid ok3
  have HB3 := Lib.hid (HB2.out.trans (he3.below (Nat.le_refl _) HB2.out.size))
  have hn1 : 1 ≤ n1 := by have := ok_pos OK.out; have := HR2.out.len; omega
  have hn2 : 1 ≤ n2 := by have := ok_pos ok3; have := hr3.len; omega
  have hl2 := hr3.len
  have hxf : ∀ x, a1 = some x → ¬ x.block = W.heap.size ∧ ¬ x.block = w3.heap.size + 1 := fun x hx => ⟨HX2.out x hx, by have := row_lt (HR2.out.apart he3 HX2.out) hn1 x hx; omega⟩
  have hxg : ∀ x, a2 = some x → ¬ x.block = W.heap.size := fun x hx => by have := hx3 x hx; have := hsz2.out; have := Z1.out; omega
  have C5 := Lib.hid (show Ce w3 W.heap.size ra rn rc w3.heap.size a1 n1 cap1 p inc zs (w3.heap.size + 1) a2 n2 cap2 q jnc ys ((w3.alloc (.cells #[.slice a1 n1 cap1, .int .i64 p, .int .i64 inc] 24)).alloc (.cells #[.slice a2 n2 cap2, .int .i64 q, .int .i64 jnc] 24)) from
    ⟨((Held.start hs3).alloc _).alloc _, (Cur3.new w3 _ _ _ _).alloc _, ((HR2.out.apart he3 HX2.out).alloc _).alloc _, Cur3.new2 w3 _ _ _ _ _, (hr3.alloc _).alloc _, hs3.lt, Nat.le_refl _, Nat.le_succ _, by omega, hxf, hxg⟩)
  have HS3 := Lib.hid hs3
  have hn7 : n2 ≤ 67 := by have := ok3.few; omega
  have hq8 : q ≤ 40 := by have := ok3.p8; omega
  have G5 := Lib.hid ok3.good
  have hn16 : n1 ≤ 16 := by have := OK.out.few; have := HR2.out.len; omega
  have hp8 := OK.out.p8
  have hp1 := OK.out.good.p1
  have HXF := Lib.hid hxf
  clear hs3 he3 hr3 ok3 hx3 hxf hxg hl2
  go_wp2_with fail
  generalize (w3.alloc (.cells #[.slice a1 n1 cap1, .int .i64 p, .int .i64 inc] 24)).alloc (.cells #[.slice a2 n2 cap2, .int .i64 q, .int .i64 jnc] 24) = w5 at C5 ⊢
  refine (n_any 2 (by omega) (by omega) W.heap.size ra rn rc _ (C5.out.held.at HS3.out)).mono ?_
  rintro e w6 ⟨r, hr, rfl, hs, he⟩
  have C6 := Lib.hid (C5.out.call hs he.apart)
  clear hs he hr C5
  go_upto_if 20 with fail
  go_cut [] (fun wx => ∃ (a2 : Option Addr) (n2 cap2 q : Nat) (jnc : Int) (ys : List Int), 1 ≤ n2 ∧ n2 ≤ 67 ∧ q ≤ 40 ∧ Hid (Good ys q jnc) ∧ Hid (Ce w3 W.heap.size ra rn rc w3.heap.size a1 n1 cap1 p inc zs (w3.heap.size + 1) a2 n2 cap2 q jnc ys wx))
  case first =>
    by_cases hr0 : r = 0
    · have t0 : (r == 0) = true := by simpa using hr0
      clear hr0
      obtain ⟨c0, c1, c2, f0, f1, f2⟩ := C6.out.bf
      go_wp2_with fail
      clear c0 c1 c2 f0 f1 f2
      refine wp_region_keeps (fun u => CeS w3 W.heap.size ra rn rc w3.heap.size a1 n1 cap1 p inc zs (w3.heap.size + 1) a2 n2 cap2 q jnc ys u) 7 1 (by kernel_rfl) (by kernel_rfl) (ce_s C6.out.drew) (fun hHeld => ?_)
      refine wpAnyK_take (i := 0) (v := ?_) rfl (by kernel_rfl) (fun _ _ _ h => h) (Or.inl ⟨by rfl, ?_⟩) (by assumption) ?_
      rotate_left
      · (intro w hSw; (try dsimp only at hSw); go_simp; try with_reducible rfl)
      try simp only [Act.put, List.setIfInBounds_toArray, List.set_cons_zero, List.set_cons_succ]
      refine wpAnyK_take (i := 1) (v := ?_) rfl (by kernel_rfl) (fun _ _ _ h => h) (Or.inl ⟨by rfl, ?_⟩) (by assumption) ?_
      rotate_left
      · (intro w hSw; (try dsimp only at hSw); go_simp; try with_reducible rfl)
      try simp only [Act.put, List.setIfInBounds_toArray, List.set_cons_zero, List.set_cons_succ]
      refine wpAnyK_take (i := 3) (v := ?_) rfl (by kernel_rfl) (fun _ _ _ h => h) (Or.inl ⟨by rfl, ?_⟩) (by assumption) ?_
      rotate_left
      · (intro w hSw; (try dsimp only at hSw); go_simp; try with_reducible rfl)
      try simp only [Act.put, List.setIfInBounds_toArray, List.set_cons_zero, List.set_cons_succ]
      refine wpAnyK_step (i := 2) rfl (by kernel_rfl) (fun K hK => ?_)
      go_simp
      refine (n_any 4 (by omega) (by omega) W.heap.size ra rn rc _ (C6.out.drew.held.at HS3.out)).mono ?_
      rintro e w7 ⟨m1, ⟨hm0, hm1⟩, rfl, hs, he⟩
      have C7 := Lib.hid (C6.out.drew.call hs he.apart)
      clear hs he
      refine hK.out _ _ (ce_s C7.out) (fun hHeld2 => ?_)
      clear hK K hHeld
      try simp only [Act.put, List.setIfInBounds_toArray, List.set_cons_zero, List.set_cons_succ]
      refine wpAnyK_step (i := 4) rfl (by kernel_rfl) (fun K hK => ?_)
      go_simp
      refine (n_any 3 (by omega) (by omega) W.heap.size ra rn rc _ (C7.out.held.at HS3.out)).mono ?_
      rintro e w8 ⟨m2, ⟨hm2, hm3⟩, rfl, hs, he⟩
      have C8 := Lib.hid (C7.out.call hs he.apart)
      have hmw : IntKind.i64.wrap (1 + m2) = 1 + m2 := IntWalk.i64_in _ ⟨by omega, by omega⟩
      clear hs he
      refine hK.out _ _ (ce_s C8.out) (fun hHeld3 => ?_)
      clear hK K hHeld2
      try simp only [Act.put, List.setIfInBounds_toArray, List.set_cons_zero, List.set_cons_succ]
      refine wpAnyK_take (i := 5) (v := ?_) rfl (by kernel_rfl) (fun _ _ _ h => h) (Or.inl ⟨by rfl, ?_⟩) (by assumption) ?_
      rotate_left
      · (intro w hSw; (try dsimp only at hSw); go_simp; try with_reducible rfl)
      try simp only [Act.put, List.setIfInBounds_toArray, List.set_cons_zero, List.set_cons_succ]
      refine wpAnyK_step (i := 6) rfl (by kernel_rfl) (fun K hK => ?_)
      go_simp
      refine (longer_same (by omega) a1 n1 cap1 zs p inc OK.out m1 (1 + m2) (by omega) (by omega) (by omega) (by omega) _ C8.out.rf).mono ?_
      rintro e w9 ⟨a3, n3, cap3, xs, p3, inc3, rfl, hb3, hr3, hg3, hv3, hn3, hp3, hloc⟩
      have C9 := Lib.hid (C8.out.below hb3)
      have hx9 : ∀ x, a3 = some x → ¬ x.block = W.heap.size ∧ ¬ x.block = w3.heap.size + 1 := fun x hx => by
        rcases hloc with e | e
        · exact HXF.out x (by rw [← e]; exact hx)
        · have h1 := e x hx
          have h2 := C8.out.bg.lt
          have h3 := C8.out.held.lt
          exact ⟨by omega, by omega⟩
      have hn31 : 1 ≤ n3 := by have := hg3.p1; have := hg3.p3; have := hr3.len; omega
      have C10 := Lib.hid (C9.out.setG (q' := p3) (jnc' := inc3) hr3 hx9)
      have HG3 := Lib.hid hg3
      refine hK.out _ _ (ce_s C9.out) (fun hHeld4 => ?_)
      clear hK K hHeld3 hr3 hb3 hg3 hv3 hloc hx9
      try simp only [Act.put, List.setIfInBounds_toArray, List.set_cons_zero, List.set_cons_succ]
      refine wpAnyK_done (by kernel_rfl) ?_
      simp only [List.drop_succ_cons, List.drop_zero]
      clear hHeld4
      obtain ⟨d0, d1, d2, g0, g1, g2⟩ := C9.out.bg
      go_wp2_with fail
      go_meet
      exact ⟨a3, n3, cap3, p3, inc3, xs, hn31, hn3, hp3, HG3, C10⟩
    · have t0 : (r == 0) = false := by simpa using hr0
      clear hr0
      go_wp2_with fail
      go_meet
      exact ⟨a2, n2, cap2, q, jnc, ys, hn2, hn7, hq8, G5, C6⟩
  case rest =>
    clear C6 G5 hn7 hq8 hn2
    obtain ⟨a2, n2, cap2, q, jnc, ys, hn2, hn7, hq8, G7, C7⟩ := hcut
    obtain ⟨w7, rfl⟩ : ∃ u : World, u = wc := ⟨_, rfl⟩
    go_upto_region 5 with fail
    go_cut [42] (fun s42 wx => ∃ bit : Bool, s42 = .bool bit ∧ (bit = true → 2 ≤ n2) ∧ Hid (Ce w3 W.heap.size ra rn rc w3.heap.size a1 n1 cap1 p inc zs (w3.heap.size + 1) a2 n2 cap2 q jnc ys wx))
    case first =>
      go_wp2_with fail
      refine (n_any 3 (by omega) (by omega) W.heap.size ra rn rc _ (C7.out.held.at HS3.out)).mono ?_
      rintro e w8 ⟨r, hr, rfl, hs, he⟩
      have C8 := Lib.hid (C7.out.call hs he.apart)
      clear hs he hr
      by_cases hr0 : r = 0
      · have t0 : (r == 0) = true := by simpa using hr0
        clear hr0
        by_cases h1 : 1 < n2
        · have h1' : (1 : Int) < (n2 : Int) := by omega
          have hbd : ∀ i, i < ys.length → -4611686018427387905 ≤ ys.getD i 0 ∧ ys.getD i 0 ≤ 4611686018427387905 := fun i hi => by
            rcases G7.out.val i hi with h | h
            · omega
            · rw [h]; decide
          have HBD := Lib.hid hbd
          have hgi0 := G7.out.i0
          have hgi1 := G7.out.i1
          obtain ⟨c0, c1, c2, f0, f1, f2⟩ := C8.out.bg
          clear hbd
          go_wp2_with fail
          clear c0 c1 c2 f0 f1 f2
          refine (bent_any 4611686018427387905 (by decide) (by decide) W.heap.size ra rn rc a2 n2 cap2 ys q jnc (by omega) (by omega) HBD.out ⟨by omega, by omega⟩ ⟨by omega, by omega⟩ _ (C8.out.held.at HS3.out) C8.out.rg).mono ?_
          rintro e w9 ⟨a3, n3, cap3, xs, p3, inc3, rfl, hs, ha, hr3, _, _, hp3, hi3, _⟩
          have C9 := Lib.hid (C8.out.call hs ha)
          clear hs ha
          obtain ⟨bit, hbit⟩ : ∃ bit, okC xs p3 inc3 = bit := ⟨_, rfl⟩
          go_wp2_with fail
          refine (rvalid_any a3 n3 cap3 xs p3 inc3 ⟨by omega, by omega⟩ ⟨by omega, by omega⟩ bit hbit _ hr3).mono ?_
          rintro e w10 ⟨rfl, hb10⟩
          have C10 := Lib.hid (C9.out.below hb10)
          clear hb10
          go_wp2_with fail
          go_meet
          exact ⟨bit, rfl, fun _ => by omega, C10⟩
        · have h1' : ¬ (1 : Int) < (n2 : Int) := by omega
          obtain ⟨c0, c1, c2, f0, f1, f2⟩ := C8.out.bg
          go_wp2_with fail
          go_meet
          exact ⟨false, rfl, (fun e => absurd e (by decide)), C8⟩
      · have t0 : (r == 0) = false := by simpa using hr0
        clear hr0
        go_wp2_with fail
        go_meet
        exact ⟨false, rfl, (fun e => absurd e (by decide)), C8⟩
    case rest =>
      obtain ⟨bit, rfl, hbit, C8⟩ := hcut
      obtain ⟨w8, rfl⟩ : ∃ u : World, u = wc := ⟨_, rfl⟩
      have HBIT := Lib.hid hbit
      clear C7 hbit
      go_upto_if 42 with fail
      go_cut [] (fun wx => ∃ (a2 : Option Addr) (n2 cap2 : Nat) (q jnc : Int) (ys : List Int), n2 ≤ 1000 ∧ (-2000 ≤ q ∧ q ≤ 2000) ∧ (-4294967296 ≤ jnc ∧ jnc ≤ 4294967296) ∧ Hid (Ce w3 W.heap.size ra rn rc w3.heap.size a1 n1 cap1 p inc zs (w3.heap.size + 1) a2 n2 cap2 q jnc ys wx))
      case first =>
        have hgi0 := G7.out.i0
        have hgi1 := G7.out.i1
        cases bit with
        | true =>
          have hbd : ∀ i, i < ys.length → -4611686018427387905 ≤ ys.getD i 0 ∧ ys.getD i 0 ≤ 4611686018427387905 := fun i hi => by
            rcases G7.out.val i hi with h | h
            · omega
            · rw [h]; decide
          have HBD := Lib.hid hbd
          obtain ⟨c0, c1, c2, f0, f1, f2⟩ := C8.out.bg
          clear hbd
          go_wp2_with fail
          clear c0 c1 c2 f0 f1 f2
          refine (bent_any 4611686018427387905 (by decide) (by decide) W.heap.size ra rn rc a2 n2 cap2 ys q jnc (by omega) (by omega) HBD.out ⟨by omega, by omega⟩ ⟨by omega, by omega⟩ _ (C8.out.held.at HS3.out) C8.out.rg).mono ?_
          rintro e w9 ⟨a3, n3, cap3, xs, p3, inc3, rfl, hs, ha, hr3, hn3, _, hp3, hi3, hx3⟩
          have hlt1 := C8.out.bg.lt
          have hlt2 := C8.out.held.lt
          have C9 := Lib.hid (C8.out.call hs ha)
          have C10 := Lib.hid (C9.out.setG (q' := p3) (jnc' := inc3) hr3 (fun x hx => by have := hx3 x hx; exact ⟨by omega, by omega⟩))
          clear hs ha hr3 hx3
          obtain ⟨c0, c1, c2, f0, f1, f2⟩ := C9.out.bg
          go_wp2_with fail
          go_meet
          exact ⟨a3, n3, cap3, p3, inc3, xs, hn3, hp3, hi3, C10⟩
        | false =>
          go_wp2_with fail
          go_meet
          exact ⟨a2, n2, cap2, q, jnc, ys, by omega, ⟨by omega, by omega⟩, ⟨by omega, by omega⟩, C8⟩
      case rest =>
        clear C8 G7 hn7 hq8 hn2
        obtain ⟨a2, n2, cap2, q, jnc, ys, hn2, ⟨hq1, hq2⟩, ⟨hj1, hj2⟩, C9⟩ := hcut
        obtain ⟨w9, rfl⟩ : ∃ u : World, u = wc := ⟨_, rfl⟩
        have HB9 := Lib.hid (HB3.out.trans (C9.out.held.ap.below (Nat.le_refl _) HB3.out.size))
        obtain ⟨ok, hok⟩ : ∃ b, okC ys q jnc = b := ⟨_, rfl⟩
        have HOK := Lib.hid hok
        obtain ⟨d0, d1, d2, g0, g1, g2⟩ := C9.out.bg
        cases ok with
        | false =>
          clear hok
          go_wp2_with fail
          refine (rvalid_any a2 n2 cap2 ys q jnc ⟨by omega, by omega⟩ ⟨by omega, by omega⟩ false HOK.out _ C9.out.rg).mono ?_
          rintro e w10 ⟨rfl, hb10⟩
          go_wp2_with fail
          refine (awake_all _).mono ?_
          rintro e w11 ⟨rfl, hb11⟩
          go_wp2_with fail
          go_ret
          have hb := HB9.out.trans (hb10.mono HB9.out.size)
          exact ⟨rfl, hb.trans (hb11.mono hb.size)⟩
        | true =>
          obtain ⟨q, rfl, g⟩ := okC_pos hok
          have G9 := Lib.hid g
          have hp3 := OK.out.good.p3
          have hqp1 := g.p1
          have hqp2 := g.p2
          have hq3 := g.p3
          have hl9 := C9.out.rg.len
          have hl1 := HR2.out.len
          obtain ⟨L, hL⟩ : ∃ L, p / Nat.gcd p q * q = L := ⟨_, rfl⟩
          have hLb : L ≤ 8 * 120 := by
            rw [← hL]
            exact Nat.mul_le_mul (Nat.le_trans (Nat.div_le_self _ _) hp8) hqp2
          obtain ⟨mx, hmx⟩ : ∃ mx, max n1 n2 = mx := ⟨_, rfl⟩
          have hmxb : mx ≤ 1000 := by omega
          obtain ⟨M, hM⟩ : ∃ M, mx + 2 * L = M := ⟨_, rfl⟩
          have hM3 : M ≤ 3000 := by omega
          have HSA := Lib.hid (fun (h : ∀ t, t < M → atC zs p inc t = atC ys q jnc t) => same_all OK.out.good g (M := M) (by rw [hl1, hl9, hL, hmx]; exact hM.symm) h)
          have hmi : max (n1 : Int) (n2 : Int) = (mx : Int) := by omega
          have hs1 : IntKind.i64.wrap (2 * (L : Int)) = 2 * (L : Int) := IntWalk.i64_in _ ⟨by omega, by omega⟩
          have hs2 : IntKind.i64.wrap ((mx : Int) + 2 * (L : Int)) = (M : Int) := by rw [show (mx : Int) + 2 * (L : Int) = (M : Int) by omega]; exact IntWalk.i64_in _ ⟨by omega, by omega⟩
          have hs3 : (mx : Int) + 2 * (L : Int) = (M : Int) := by omega
          have hs4 : IntKind.i64.wrap (M : Int) = (M : Int) := IntWalk.i64_in _ ⟨by omega, by omega⟩
          have HL9 := Lib.hid (And.intro hL (And.intro hmx hM))
          clear hok g hL hmx hM hl9 hl1 hq3 hp3
          go_wp2_with fail
          refine (rvalid_any a2 n2 cap2 ys q jnc ⟨by omega, by omega⟩ ⟨by omega, by omega⟩ true HOK.out _ C9.out.rg).mono ?_
          rintro e w10 ⟨rfl, hb10⟩
          have C10 := Lib.hid (C9.out.below hb10)
          have HB10 := Lib.hid (HB9.out.trans (hb10.mono HB9.out.size))
          clear hb10 d0 d1 d2 g0 g1 g2
          go_wp2_with fail
          go_loopw [6, 7] (fun s6 s7 wx => ∃ (k : Nat) (sm : Bool), s7 = .int .i64 k ∧ s6 = .bool sm ∧ k ≤ M ∧ Hid (sm = true ↔ ∀ t, t < k → atC zs p inc t = atC ys q jnc t) ∧ Hid (Below w10.heap.size w10 wx)) (fun _ s7 _ => M - (intOf s7).toNat)
          case atStart => exact ⟨0, true, rfl, rfl, Nat.zero_le _, ⟨fun _ t ht => absurd ht (Nat.not_lt_zero _), fun _ => rfl⟩, Below.refl _ _⟩
          case round =>
            obtain ⟨k, sm, rfl, rfl, hk, HSM, HBx⟩ := hrel
            obtain ⟨w11, rfl⟩ : ∃ u : World, u = wr := ⟨_, rfl⟩
            have C11 := Lib.hid (C10.out.below HBx.out)
            have c0 := C11.out.bf.c0
            have c1 := C11.out.bf.c1
            have d0 := C11.out.bg.c0
            have d1 := C11.out.bg.c1
            have HC := Lib.hid (And.intro c0 (And.intro c1 (And.intro d0 d1)))
            have KD := Lib.hid (fun (u : World) (h : ∃ m, u = w11.drewN m) => (show u.cell? ⟨w3.heap.size, 0, none⟩ = some (.slice a1 n1 cap1) ∧ u.cell? ⟨w3.heap.size, 1, none⟩ = some (.int .i64 p) ∧ u.cell? ⟨w3.heap.size + 1, 0, none⟩ = some (.slice a2 n2 cap2) ∧ u.cell? ⟨w3.heap.size + 1, 1, none⟩ = some (.int .i64 q) ∧ Hid (∃ m, u = w11.drewN m) from ⟨(C11.out.bf.dr h).c0, (C11.out.bf.dr h).c1, (C11.out.bg.dr h).c0, (C11.out.bg.dr h).c1, h⟩))
            go_wp2_with fail
            go_cut [65] (fun s65 wx => ∃ bt : Bool, s65 = .bool bt ∧ (bt = true ↔ k < M) ∧ Hid (∃ m, wx = w11.drewN m))
            case first =>
              have hcmp : (n2 ≤ n1 ∧ mx = n1) ∨ (n1 < n2 ∧ mx = n2) := by have := HL9.out.2.1; omega
              rcases hcmp with ⟨h12, hmxe⟩ | ⟨h12, hmxe⟩
              · have h12' : (n2 : Int) ≤ (n1 : Int) := by omega
                have hd12 : decide (n1 < n2) = false := by simp; omega
                have hd13 : ¬ n1 < n2 := by omega
                have t2 : IntKind.i64.wrap ((n1 : Int) + 2 * (L : Int)) = (M : Int) := by rw [← hmxe]; exact hs2
                have t3 : (n1 : Int) + 2 * (L : Int) = (M : Int) := by omega
                clear hmxe
                go_region_held3 (fun u => u.cell? ⟨w3.heap.size, 0, none⟩ = some (.slice a1 n1 cap1) ∧ u.cell? ⟨w3.heap.size, 1, none⟩ = some (.int .i64 p) ∧ u.cell? ⟨w3.heap.size + 1, 0, none⟩ = some (.slice a2 n2 cap2) ∧ u.cell? ⟨w3.heap.size + 1, 1, none⟩ = some (.int .i64 q) ∧ Hid (∃ m, u = w11.drewN m))
                  (first | exact KD.out _ ⟨1, rfl⟩ | exact KD.out _ hd)
                  (first | (go_at_call 33; refine (lcm_at p q L HL9.out.1 (by omega) (by omega) (by omega) (by omega) _).mono ?_; rintro e w12 ⟨rfl, hd0⟩; have hd : ∃ m, w12 = w11.drewN m := (dr_trans (u := w11) ⟨1, rfl⟩ hd0); clear hd0))
                all_goals go_wp2_with fail
                all_goals go_meet
                all_goals exact ⟨_, rfl, by simp, hd⟩
              · have h12' : (n1 : Int) < (n2 : Int) := by omega
                have hd12 : decide (n1 < n2) = true := by simp; omega
                have t2 : IntKind.i64.wrap ((n2 : Int) + 2 * (L : Int)) = (M : Int) := by rw [← hmxe]; exact hs2
                have t3 : (n2 : Int) + 2 * (L : Int) = (M : Int) := by omega
                clear hmxe
                go_region_held3 (fun u => u.cell? ⟨w3.heap.size, 0, none⟩ = some (.slice a1 n1 cap1) ∧ u.cell? ⟨w3.heap.size, 1, none⟩ = some (.int .i64 p) ∧ u.cell? ⟨w3.heap.size + 1, 0, none⟩ = some (.slice a2 n2 cap2) ∧ u.cell? ⟨w3.heap.size + 1, 1, none⟩ = some (.int .i64 q) ∧ Hid (∃ m, u = w11.drewN m))
                  (first | exact KD.out _ ⟨1, rfl⟩ | exact KD.out _ hd)
                  (first | (go_at_call 33; refine (lcm_at p q L HL9.out.1 (by omega) (by omega) (by omega) (by omega) _).mono ?_; rintro e w12 ⟨rfl, hd0⟩; have hd : ∃ m, w12 = w11.drewN m := (dr_trans (u := w11) ⟨1, rfl⟩ hd0); clear hd0))
                all_goals go_wp2_with fail
                all_goals go_meet
                all_goals exact ⟨_, rfl, by simp, hd⟩
            case rest =>
              obtain ⟨bt, rfl, hbt, hdr⟩ := hcut
              obtain ⟨w13, rfl⟩ : ∃ u : World, u = wc := ⟨_, rfl⟩
              have C13 := Lib.hid (C11.out.below (below_dr (Below.refl _ _) hdr.out))
              have HB13 := Lib.hid (HBx.out.trans ((below_dr (Below.refl _ _) hdr.out : Below w11.heap.size w11 w13).mono HBx.out.size))
              clear c0 c1 d0 d1 KD
              by_cases hlt : k < M
              · obtain rfl : bt = true := hbt.2 hlt
                obtain ⟨v1, hv1⟩ : ∃ v, atC zs p inc k = v := ⟨_, rfl⟩
                obtain ⟨v2, hv2⟩ : ∃ v, atC ys q jnc k = v := ⟨_, rfl⟩
                have HV := Lib.hid (And.intro hv1 hv2)
                clear hbt hv1 hv2
                obtain ⟨c0, c1, c2, f0, f1, f2⟩ := C13.out.bf
                go_wp2_with fail
                clear c0 c1 c2 f0 f1 f2
                refine (value_at a1 n1 cap1 zs p inc OK.out.good _ k rfl (by omega) v1 HV.out.1 _ C13.out.rf).mono ?_
                rintro e w14 ⟨rfl, hb14⟩
                have C14 := Lib.hid (C13.out.below hb14)
                have HB14 := Lib.hid (HB13.out.trans (hb14.mono HB13.out.size))
                clear hb14
                obtain ⟨c0, c1, c2, f0, f1, f2⟩ := C14.out.bg
                go_wp2_with fail
                clear c0 c1 c2 f0 f1 f2
                refine (value_at a2 n2 cap2 ys q jnc G9.out _ k rfl (by omega) v2 HV.out.2 _ C14.out.rg).mono ?_
                rintro e w15 ⟨rfl, hb15⟩
                have HB15 := Lib.hid (HB14.out.trans (hb15.mono HB14.out.size))
                clear hb15
                cases sm with
                | true =>
                  by_cases hv : v1 = v2
                  · have tv : (v1 == v2) = true := by simpa using hv
                    have HSM2 : Hid (∀ t, t < k + 1 → atC zs p inc t = atC ys q jnc t) := Lib.hid fun t ht => by
                      by_cases he : t = k
                      · subst he; rw [HV.out.1, HV.out.2]; exact hv
                      · exact HSM.out.1 rfl t (by omega)
                    clear hv
                    go_wp2_with fail
                    go_roundw
                    case rel => exact ⟨k + 1, true, by go_num, rfl, by omega, Lib.hid ⟨fun _ => HSM2.out, fun _ => rfl⟩, HB15⟩
                    case measure => simp [intOf]; omega
                  · have tv : (v1 == v2) = false := by simpa using hv
                    have HSM2 : Hid (¬ ∀ t, t < k + 1 → atC zs p inc t = atC ys q jnc t) := Lib.hid fun h => absurd (by rw [← HV.out.1, ← HV.out.2]; exact h k (by omega)) hv
                    clear hv
                    go_wp2_with fail
                    go_roundw
                    case rel => exact ⟨k + 1, false, by go_num, rfl, by omega, Lib.hid ⟨fun h => absurd h (by decide), fun h => absurd h HSM2.out⟩, HB15⟩
                    case measure => simp [intOf]; omega
                | false =>
                  have HSM2 : Hid (¬ ∀ t, t < k + 1 → atC zs p inc t = atC ys q jnc t) := Lib.hid fun h => absurd (HSM.out.2 (fun t ht => h t (by omega))) (by decide)
                  go_wp2_with fail
                  go_roundw
                  case rel => exact ⟨k + 1, false, by go_num, rfl, by omega, Lib.hid ⟨fun h => absurd h (by decide), fun h => absurd h HSM2.out⟩, HB15⟩
                  case measure => simp [intOf]; omega
              · obtain rfl : bt = false := by
                  cases bt with
                  | true => exact absurd (hbt.1 rfl) hlt
                  | false => rfl
                obtain rfl : k = M := by omega
                clear hbt
                obtain ⟨c0, c1, c2, f0, f1, f2⟩ := C13.out.bf
                obtain ⟨d0, d1, d2, g0, g1, g2⟩ := C13.out.bg
                go_wp2_with fail
                refine (equal_ok a1 n1 cap1 zs p inc OK.out.good a2 n2 cap2 ys q jnc G9.out _ C13.out.rf C13.out.rg).mono ?_
                rintro e w14 ⟨b', hb', rfl, hb14⟩
                have HB14 := Lib.hid (HB13.out.trans (hb14.mono HB13.out.size))
                have hbs : (b' == sm) = true := by
                  rw [beq_iff_eq, Bool.eq_iff_iff, hb', HSM.out]
                  exact ⟨fun h t _ => h t, HSA.out⟩
                clear hb14 hb'
                go_wp2_with fail
                refine (awake_all _).mono ?_
                rintro e w15 ⟨rfl, hb15⟩
                go_wp2_with fail
                go_ret
                have hb := HB10.out.trans (HB14.out.mono HB10.out.size)
                exact ⟨rfl, hb.trans (hb15.mono hb.size)⟩

end Go.Proofs.Ytdakadgfnlpogaa
