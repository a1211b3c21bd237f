/- The walk of RemainderGreatest. By the verifier's side. -/
import Derived.Test.YtcbocglakielnaaRRemP
import Derived.Test.YtcbocglakielnaaRRemL
import Derived.Test.YtcbocglakielnaaRZero3
import Derived.Test.YtcbocglakielnaaRAdj
namespace Go.Proofs.Ytcbocglakielnaa
open Go.RowKit
set_option linter.unusedSimpArgs false
set_option linter.unusedVariables false

theorem low_upto {most : Nat} (hm : most ≤ 5) {zs : List Int} {p : Nat} {inc : Int} (g : Good zs p inc) (hf : ¬ InfC zs) (h0 : zs.getD 0 0 = 0) (h : Sm3 most zs p inc) : LowC zs p inc :=
  ⟨g, hf, by rw [atC_lt (by have := g.p1; have := g.p3; omega), h0], (h.2 hf).1, by obtain ⟨c, hp⟩ := (h.2 hf).2; exact ⟨c, hp.mono hm⟩⟩
theorem LowC.day6 {zs : List Int} {p : Nat} {inc : Int} (h : LowC zs p inc) : Day (eC zs p inc) := by
  obtain ⟨c, hp⟩ := h.per
  exact day_some (F := atC zs p inc) (fun t _ => eC_fin h.fin p inc t) (hp.mul 2)
theorem eC_monoK6 {zs : List Int} {p : Nat} {inc : Int} (g : Good zs p inc) (t k : Nat) : ole (eC zs p inc t) (eC zs p inc (t + k)) := by
  induction k with
  | zero => exact ole_refl _
  | succ k ih =>
    refine ole_trans ih fun y hy => ?_
    cases h1 : eC zs p inc (t + k) with
    | none => rw [show t + (k + 1) = t + k + 1 by omega, eC_up g h1] at hy; cases hy
    | some x => exact ⟨x, rfl, eC_mono g h1 hy⟩
/-- A curve that is at most the difference at each tick is at most the least difference from there on. -/
theorem above_adj {zf zg zh : List Int} {pf pg ph : Nat} {jf jg jh : Int} (gh : Good zh ph jh) :
    (∀ t, ole (eC zh ph jh t) (eAbove zf pf jf zg pg jg t)) ↔ ∀ t, ole (eC zh ph jh t) (eDif zf pf jf zg pg jg t) := by
  constructor
  · intro h t
    exact ole_trans (h t) (minO_le (fun _ _ => eDif_nn) (Nat.le_refl t))
  · intro h t
    refine minO_great (fun _ _ => eDif_nn) fun s hs => ?_
    have := eC_monoK6 gh t (s - t)
    rw [show t + (s - t) = s by omega] at this
    exact ole_trans this (h s)
/-- 3000 ticks decide. -/
theorem decide_3000 {F G H : Nat → Int} {a b c : Int} (hF : Per F 5 12 a) (hG : Per G 5 12 b) (hH : Per H 5 12 c) (mH : ∀ t, H t ≤ H (t + 1)) (H0 : 0 ≤ H 0) (nG : ∀ t, 0 ≤ G t) (sF : ∀ t, F t ≤ 3 + 9 * (t : Int))
    (h : ∀ t, t < 3000 → H t ≤ max 0 (F t - G t)) (t : Nat) : H t ≤ max 0 (F t - G t) := by
  have nH : ∀ t, 0 ≤ H t := fun t => by
    induction t with
    | zero => exact H0
    | succ t ih => have := mH t; omega
  by_cases ht : t < 3000
  · exact h t ht
  have hd : Per (fun t => H t - (F t - G t)) 5 12 (c - (a - b)) := fun t ht => by
    have := hF t ht; have := hG t ht; have := hH t ht
    show H (t + 12) - (F (t + 12) - G (t + 12)) = H t - (F t - G t) + (c - (a - b)); omega
  -- the same remainder, below 17
  obtain ⟨u, k, hu1, hu2, rfl⟩ : ∃ u k, 5 ≤ u ∧ u < 17 ∧ t = u + k * 12 := ⟨5 + (t - 5) % 12, (t - 5) / 12, by omega, by omega, by omega⟩
  have c0 : 0 ≤ c := by
    have h1 := hH 5 (Nat.le_refl _)
    have m5 : ∀ k, H 5 ≤ H (5 + k) := fun k => by
      induction k with
      | zero => exact Int.le_refl _
      | succ k ih => have := mH (5 + k); show _ ≤ H (5 + k + 1); omega
    have := m5 12
    omega
  have eH := fun j => hH.mul j u hu1
  have eD := fun j => hd.mul j u hu1
  refine Int.not_lt.1 fun hv => ?_
  have v1 : 0 < H (u + k * 12) := by omega
  have v2 : 0 < H (u + k * 12) - (F (u + k * 12) - G (u + k * 12)) := by omega
  have k200 : 200 ≤ k := by omega
  rw [eH k] at v1
  have ek : H (u + k * 12) - (F (u + k * 12) - G (u + k * 12)) = H u - (F u - G u) + (k : Int) * (c - (a - b)) := eD k
  rw [ek] at v2
  have f200 := h (u + 200 * 12) (by omega)
  have e200 : H (u + 200 * 12) - (F (u + 200 * 12) - G (u + 200 * 12)) = H u - (F u - G u) + ((200 : Nat) : Int) * (c - (a - b)) := eD 200
  have q200 := eH 200
  have pos : 0 < H (u + 200 * 12) := by
    rw [q200]
    have := nH u
    by_cases hc : c = 0
    · subst hc; omega
    · omega
  have neg : H u - (F u - G u) + ((200 : Nat) : Int) * (c - (a - b)) ≤ 0 := by omega
  have b1 := sF u
  have b2 := nG u
  have b3 := nH u
  by_cases hs : 1 ≤ c - (a - b)
  · omega
  · have hle : ((k : Int) - 200) * (c - (a - b)) ≤ 0 := Int.mul_nonpos_of_nonneg_of_nonpos (by omega) (by omega)
    have : (k : Int) * (c - (a - b)) = ((k : Int) - 200) * (c - (a - b)) + 200 * (c - (a - b)) := by rw [← Int.add_mul]; congr 1; omega
    omega

theorem dif_at {zf zg : List Int} {pf pg : Nat} {jf jg : Int} (f1 : ¬ InfC zf) (f2 : ¬ InfC zg) (t : Nat) : encF (eDif zf pf jf zg pg jg) t = max 0 (atC zf pf jf t - atC zg pg jg t) := encF_some (eDif_fin f1 f2 t)
theorem below_iff {zf zg zh : List Int} {pf pg ph : Nat} {jf jg jh : Int} (hf : LowC zf pf jf) (hg : LowC zg pg jg) (hh : LowC zh ph jh) :
    (∀ s, s < 3000 → atC zh ph jh s ≤ encF (eDif zf pf jf zg pg jg) s) ↔ ∀ t, ole (eC zh ph jh t) (eAbove zf pf jf zg pg jg t) := by
  rw [above_adj hh.good]
  obtain ⟨a, ha⟩ := hf.per
  obtain ⟨b, hb⟩ := hg.per
  obtain ⟨c, hc⟩ := hh.per
  constructor
  · intro h t
    have := decide_3000 ha hb hc hh.good.step (by rw [hh.zero]; omega) (fun t => (eC_bd hg.good (eC_fin hg.fin pg jg t)).1) hf.slow (fun t ht => by have := h t ht; rwa [dif_at hf.fin hg.fin] at this) t
    rw [eC_fin hh.fin, eDif_fin hf.fin hg.fin]
    intro y hy
    have e : max 0 (atC zf pf jf t - atC zg pg jg t) = y := Option.some.inj hy
    exact ⟨_, rfl, by omega⟩
  · intro h s _
    have := h s
    rw [eC_fin hh.fin, eDif_fin hf.fin hg.fin] at this
    obtain ⟨x, hx, hl⟩ := this _ rfl
    have e : atC zh ph jh s = x := Option.some.inj hx
    rw [dif_at hf.fin hg.fin]; omega

set_option maxRecDepth 100000 in
set_option maxHeartbeats 6400000 in
theorem remainderGreatest_walk (W : World) (a : Option Addr) (n cap : Nat) (hrow : RowAt W a n cap) :
    Calls Try.prog 5 #[.slice a n cap] W fun e w' => e = .returned (.bool true) ∧ Below W.heap.size W w' := by
  have HR := Lib.hid hrow
  clear hrow
  go_enter Try.func5, Try.ntmps5
  go_wp2_with fail
  refine (new_any a n cap _ HR.out).mono ?_
  rintro e u1 ⟨rfl, hb1, hz1, ra, rn, rc, hs1⟩
  have HB1 := Lib.hid hb1
  have HS1 := Lib.hid hs1
  have Z1 := Lib.hid hz1
  clear hb1 hz1 hs1
  go_wp2_with fail
  refine (zero_any3 5 (by omega) (by omega) _ ra rn rc _ HS1.out).mono ?_
  rintro e u2 ⟨af, nf, capf, zf, pf, jf, rfl, hs2, he2, hr2, hg2, hn2, h02, hsm2, hx2⟩
  have OF := Lib.hid (low_upto (by omega) hg2 hn2 h02 hsm2)
  have HS2 := Lib.hid hs2
  have R2 := Lib.hid hr2
  have X2 := Lib.hid (show ∀ x, af = some x → ¬ x.block = W.heap.size from fun x hx => by have := hx2 x hx; have := Z1.out; omega)
  have HB2 := Lib.hid (HB1.out.trans (he2.below (Nat.le_refl _) HB1.out.size))
  clear hs2 he2 hr2 hg2 hn2 h02 hsm2 hx2
  go_wp2_with fail
  refine (zero_any3 5 (by omega) (by omega) _ ra rn rc _ HS2.out).mono ?_
  rintro e u3 ⟨ag, ng, capg, zg, pg, jg, rfl, hs3, he3, hr3, hg3, hn3, h03, hsm3, hx3⟩
  have OG := Lib.hid (low_upto (by omega) hg3 hn3 h03 hsm3)
  have HS3 := Lib.hid hs3
  have R3 := Lib.hid (And.intro (R2.out.apart he3 X2.out) hr3)
  have h9 : W.heap.size < u2.heap.size := lt_of_cell (src_cell HS2.out)
  have X3 := Lib.hid (show ∀ x, ag = some x → ¬ x.block = W.heap.size from fun x hx => by have := hx3 x hx; omega)
  have HB3 := Lib.hid (HB2.out.trans (he3.below (Nat.le_refl _) HB2.out.size))
  clear hs3 he3 hr3 hg3 hn3 h03 hsm3 hx3 h9
  go_wp2_with fail
  refine (zero_any3 4 (by omega) (by omega) _ ra rn rc _ HS3.out).mono ?_
  rintro e u4 ⟨ah, nh, caph, zh, ph, jh, rfl, hs4, he4, hr4, hg4, hn4, h04, hsm4, hx4⟩
  have OH := Lib.hid (low_upto (by omega) hg4 hn4 h04 hsm4)
  have HS4 := Lib.hid hs4
  have R4 := Lib.hid (And.intro (R3.out.1.apart he4 X2.out) (And.intro (R3.out.2.apart he4 X3.out) hr4))
  have h9 : W.heap.size < u3.heap.size := lt_of_cell (src_cell HS3.out)
  have X4 := Lib.hid (show ∀ x, ah = some x → ¬ x.block = W.heap.size from fun x hx => by have := hx4 x hx; omega)
  have HB4 := Lib.hid (HB3.out.trans (he4.below (Nat.le_refl _) HB3.out.size))
  clear hs4 he4 hr4 hg4 hn4 h04 hsm4 hx4 h9
  obtain ⟨w0, hw⟩ : ∃ w', ((u4.alloc (.cells #[.slice af nf capf, .int .i64 pf, .int .i64 jf] 24)).alloc (.cells #[.slice ag ng capg, .int .i64 pg, .int .i64 jg] 24)).alloc (.cells #[.slice ah nh caph, .int .i64 ph, .int .i64 jh] 24) = w' := ⟨_, rfl⟩
  have hz : Below u4.heap.size u4 w0 := by rw [← hw]; exact ((below_box _).alloc (by simp) _).alloc (by simp; omega) _
  have Xf := Lib.hid (show Bx w0 u4.heap.size af nf capf pf jf zf by rw [← hw]; exact ((Bx.new R4.out.1).under (below_box _)).under (below_box _))
  have Xg := Lib.hid (show Bx w0 (u4.heap.size + 1) ag ng capg pg jg zg by
    rw [← hw]
    have := (Bx.new (p := pg) (inc := jg) (R4.out.2.1.alloc (.cells #[.slice af nf capf, .int .i64 pf, .int .i64 jf] 24))).under (below_box (.cells #[.slice ah nh caph, .int .i64 ph, .int .i64 jh] 24))
    rwa [show (u4.alloc (.cells #[.slice af nf capf, .int .i64 pf, .int .i64 jf] 24)).heap.size = u4.heap.size + 1 by simp] at this)
  have Xh := Lib.hid (show Bx w0 (u4.heap.size + 1 + 1) ah nh caph ph jh zh by
    rw [← hw]
    have := Bx.new (p := ph) (inc := jh) ((R4.out.2.2.alloc (.cells #[.slice af nf capf, .int .i64 pf, .int .i64 jf] 24)).alloc (.cells #[.slice ag ng capg, .int .i64 pg, .int .i64 jg] 24))
    rwa [show ((u4.alloc (.cells #[.slice af nf capf, .int .i64 pf, .int .i64 jf] 24)).alloc (.cells #[.slice ag ng capg, .int .i64 pg, .int .i64 jg] 24)).heap.size = u4.heap.size + 1 + 1 by simp] at this)
  have SR := Lib.hid (src_under HS4.out hz)
  have HB5 := Lib.hid (HB4.out.trans (hz.mono HB4.out.size))
  have SW0 := Lib.hid (show u4.heap.size + 3 = w0.heap.size by rw [← hw]; simp)
  have SB := Lib.hid (lt_of_cell (src_cell HS4.out))
  have FF := Lib.hid (And.intro R4.out.1.far (And.intro R4.out.2.1.far (And.intro R4.out.2.2.far (src_far1 HS4.out))))
  have HW0 := Lib.hid hw
  clear hw hz HB1 HB2 HB3 HB4 HS1 HS2 HS3 HS4 R2 R3 R4
  go_upto_region 3 with fail
  try rw [HW0.out]
  clear HW0
  obtain ⟨F, hF⟩ : ∃ F, u4.heap.size = F := ⟨_, rfl⟩
  rw [hF] at Xf Xg Xh SW0 SB FF ⊢
  clear hF
  obtain ⟨G, hG⟩ : ∃ G, F + 1 = G := ⟨_, rfl⟩
  rw [hG] at Xg Xh ⊢
  obtain ⟨H, hH⟩ : ∃ H, G + 1 = H := ⟨_, rfl⟩
  rw [hH] at Xh ⊢
  have HGH := Lib.hid (And.intro hG hH)
  clear hG hH
  obtain ⟨c0, c1, c2, c3, c4, c5⟩ := Xf.out.box
  obtain ⟨d0, d1, d2, d3, d4, d5⟩ := Xg.out.box
  go_wp2_with fail
  clear c0 c1 c2 c3 c4 c5 d0 d1 d2 d3 d4 d5
  with_reducible refine (above_day af nf capf zf pf jf OF.out.good ag ng capg zg pg jg OG.out.good OF.out.day6 OG.out.day6 _ Xf.out.row Xg.out.row).mono ?_
  rintro e v1 ⟨hb, ⟨ax, nx, capx, zx, px, jx, rfl, hr, hf, hx⟩ | ⟨rfl, hno⟩⟩
  rotate_left
  · have HBQ := Lib.hid (HB5.out.trans ((hb.trans ((below_box (.cells #[.slice none 0 0, .int .i64 0, .int .i64 0] 24)).mono hb.size)).mono HB5.out.size))
    clear hb hno
    go_wp2_with fail
    refine (awake6 _).mono ?_
    rintro e y9 ⟨rfl, hb⟩
    have HBZ := Lib.hid (HBQ.out.trans (hb.mono HBQ.out.size))
    clear hb
    go_wp2_with fail
    go_ret
    exact ⟨rfl, HBZ.out⟩
  obtain ⟨w1, hw⟩ : ∃ w', v1.alloc (.cells #[.slice ax nx capx, .int .i64 px, .int .i64 jx] 24) = w' := ⟨_, rfl⟩
  have hz : Below w0.heap.size w0 w1 := by rw [← hw]; exact hb.trans ((below_box _).mono hb.size)
  obtain ⟨X, hX⟩ : ∃ X, v1.heap.size = X := ⟨_, rfl⟩
  have OX := Lib.hid hf
  have J1 := Lib.hid (show AE W F G H X af nf capf zf pf jf ag ng capg zg pg jg ah nh caph zh ph jh ax nx capx zx px jx w1 from ⟨Xf.out.under hz, Xg.out.under hz, Xh.out.under hz, by rw [← hw, ← hX]; exact Bx.new hr, HB5.out.trans (hz.mono HB5.out.size)⟩)
  have HW1 := Lib.hid hw
  have HXE := Lib.hid hX
  clear hb hr hf hx hz hw hX Xf Xg Xh SR HB5 SW0 SB FF HGH X2 X3 X4
  go_upto_region 4 with fail
  try rw [HW1.out]
  try rw [HXE.out]
  go_upto_region 6 with fail
  go_wp2_with fail
  go_loopw [9, 10] (fun s9 s10 wx => ∃ (k : Nat) (bl : Bool), s9 = .bool bl ∧ s10 = .int .i64 k ∧ k ≤ 3000 ∧ Hid (bl = true ↔ ∀ s, s < k → atC zh ph jh s ≤ encF (eDif zf pf jf zg pg jg) s) ∧ Hid (AE W F G H X af nf capf zf pf jf ag ng capg zg pg jg ah nh caph zh ph jh ax nx capx zx px jx wx)) (fun _ s10 _ => 3000 - (intOf s10).toNat)
  case atStart => exact ⟨0, true, rfl, by go_num, by omega, ⟨fun _ s hs => absurd hs (Nat.not_lt_zero s), fun _ => rfl⟩, J1⟩
  case round =>
    clear J1
    obtain ⟨k, bl, rfl, rfl, hk, HBL, T0⟩ := hrel
    obtain ⟨wk, rfl⟩ : ∃ u : World, u = wr := ⟨_, rfl⟩
    by_cases hlt : k < 3000
    · have hlt' : (k : Int) < 3000 := by omega
      obtain ⟨vh, hvh⟩ : ∃ v, atC zh ph jh k = v := ⟨_, rfl⟩
      obtain ⟨vd, hvd⟩ : ∃ v, encF (eDif zf pf jf zg pg jg) k = v := ⟨_, rfl⟩
      obtain ⟨va, hva⟩ : ∃ v, atC zx px jx k = v := ⟨_, rfl⟩
      have hda : ¬ vd < va := by
        have h1 := OX.out.2.1 k
        have h2 := minO_le (D := eDif zf pf jf zg pg jg) (fun _ _ => eDif_nn) (Nat.le_refl k)
        rw [eDif_fin OF.out.fin OG.out.fin] at h2
        obtain ⟨y, hy, hl⟩ := h2 _ rfl
        have h3 : eC zx px jx k = some y := h1.trans hy
        have h4 := (eC_bd OX.out.1 h3).2.2
        rw [dif_at OF.out.fin OG.out.fin] at hvd
        omega
      have HV := Lib.hid (And.intro hvh (And.intro hvd hva))
      have HNX := Lib.hid (show ∀ bn : Bool, (bn = true ↔ (bl = true ∧ vh ≤ vd)) → (bn = true ↔ ∀ s, s < k + 1 → atC zh ph jh s ≤ encF (eDif zf pf jf zg pg jg) s) from fun bn hbn => by
        rw [hbn, HBL.out]
        constructor
        · rintro ⟨h1, h2⟩ s hs
          by_cases e : s = k
          · subst e; rw [hvh, hvd]; exact h2
          · exact h1 s (by omega)
        · intro h
          exact ⟨fun s hs => h s (by omega), by have := h k (by omega); rwa [hvh, hvd] at this⟩)
      clear hvh hvd hva
      have Q0 := Lib.hid (T0.out.call (Below.refl _ _).drew)
      go_upto_region 10 with fail
      go_cut [9] (fun s9 wx => ∃ bn : Bool, s9 = .bool bn ∧ Hid (bn = true ↔ (bl = true ∧ vh ≤ vd)) ∧ Hid (AE W F G H X af nf capf zf pf jf ag ng capg zg pg jg ah nh caph zh ph jh ax nx capx zx px jx wx))
      case first =>
        cases bl with
        | true =>
          refine wp_region_keeps (fun u => AES W F G H X af nf capf zf pf jf ag ng capg zg pg jg ah nh caph zh ph jh ax nx capx zx px jx u) 10 2 (by kernel_rfl) (by kernel_rfl) (aes_of Q0.out) (fun hHeld0 => ?_)
          refine wpAnyK_take (i := 0) (v := ?_) rfl (by kernel_rfl) (fun _ _ _ h => h) (Or.inl ⟨by rfl, ?_⟩) (by assumption) ?_
          rotate_left
          · (intro w hSw; (try dsimp only at hSw); go_simp; try with_reducible rfl)
          try simp only [Act.put, List.getElem_toArray, List.getElem_cons_zero, List.getElem_cons_succ, List.setIfInBounds_toArray, List.set_cons_zero, List.set_cons_succ]
          refine wpAnyK_take (i := 1) (v := ?_) rfl (by kernel_rfl) (fun _ _ _ h => h) (Or.inl ⟨by rfl, ?_⟩) (by assumption) ?_
          rotate_left
          · (intro w hSw; (try dsimp only at hSw); go_simp; try with_reducible rfl)
          try simp only [Act.put, List.getElem_toArray, List.getElem_cons_zero, List.getElem_cons_succ, List.setIfInBounds_toArray, List.set_cons_zero, List.set_cons_succ]
          refine wpAnyK_take (i := 2) (v := ?_) rfl (by kernel_rfl) (fun _ _ _ h => h) (Or.inl ⟨by rfl, ?_⟩) (by assumption) ?_
          rotate_left
          · (intro w hSw; (try dsimp only at hSw); go_simp; try with_reducible rfl)
          try simp only [Act.put, List.getElem_toArray, List.getElem_cons_zero, List.getElem_cons_succ, List.setIfInBounds_toArray, List.set_cons_zero, List.set_cons_succ]
          refine wpAnyK_take (i := 3) (v := ?_) rfl (by kernel_rfl) (fun _ _ _ h => h) (Or.inl ⟨by rfl, ?_⟩) (by assumption) ?_
          rotate_left
          · (intro w hSw; (try dsimp only at hSw); go_simp; try with_reducible rfl)
          try simp only [Act.put, List.getElem_toArray, List.getElem_cons_zero, List.getElem_cons_succ, List.setIfInBounds_toArray, List.set_cons_zero, List.set_cons_succ]
          refine wpAnyK_take (i := 5) (v := ?_) rfl (by kernel_rfl) (fun _ _ _ h => h) (Or.inl ⟨by rfl, ?_⟩) (by assumption) ?_
          rotate_left
          · (intro w hSw; (try dsimp only at hSw); go_simp; try with_reducible rfl)
          try simp only [Act.put, List.getElem_toArray, List.getElem_cons_zero, List.getElem_cons_succ, List.setIfInBounds_toArray, List.set_cons_zero, List.set_cons_succ]
          refine wpAnyK_take (i := 6) (v := ?_) rfl (by kernel_rfl) (fun _ _ _ h => h) (Or.inl ⟨by rfl, ?_⟩) (by assumption) ?_
          rotate_left
          · (intro w hSw; (try dsimp only at hSw); go_simp; try with_reducible rfl)
          try simp only [Act.put, List.getElem_toArray, List.getElem_cons_zero, List.getElem_cons_succ, List.setIfInBounds_toArray, List.set_cons_zero, List.set_cons_succ]
          refine wpAnyK_take (i := 7) (v := ?_) rfl (by kernel_rfl) (fun _ _ _ h => h) (Or.inl ⟨by rfl, ?_⟩) (by assumption) ?_
          rotate_left
          · (intro w hSw; (try dsimp only at hSw); go_simp; try with_reducible rfl)
          try simp only [Act.put, List.getElem_toArray, List.getElem_cons_zero, List.getElem_cons_succ, List.setIfInBounds_toArray, List.set_cons_zero, List.set_cons_succ]
          refine wpAnyK_step (i := 4) rfl (by kernel_rfl) (fun K hK => ?_)
          go_simp
          with_reducible refine (rat_at ah nh caph zh ph jh OH.out.good k k rfl (by omega) vh HV.out.1 _ Q0.out.x.row).mono ?_
          rintro e y1 ⟨rfl, hb⟩
          have K1 := Lib.hid (Q0.out.call hb)
          clear hb
          refine hK.out _ _ (aes_of K1.out) (fun hHeld1 => ?_)
          clear hK K hHeld0
          try simp only [Act.put, List.getElem_toArray, List.getElem_cons_zero, List.getElem_cons_succ, List.setIfInBounds_toArray, List.set_cons_zero, List.set_cons_succ]
          refine wpAnyK_step (i := 8) rfl (by kernel_rfl) (fun K hK => ?_)
          go_simp
          with_reducible refine (ldif_any af nf capf zf pf jf OF.out.good ag ng capg zg pg jg OG.out.good k k rfl (by omega) vd HV.out.2.1 _ K1.out.f.row K1.out.h.row).mono ?_
          rintro e y2 ⟨rfl, hb⟩
          have K2 := Lib.hid (K1.out.call hb)
          clear hb
          refine hK.out _ _ (aes_of K2.out) (fun hHeld2 => ?_)
          clear hK K hHeld1
          try simp only [Act.put, List.getElem_toArray, List.getElem_cons_zero, List.getElem_cons_succ, List.setIfInBounds_toArray, List.set_cons_zero, List.set_cons_succ]
          refine wpAnyK_take (i := 9) (v := ?_) rfl (by kernel_rfl) (fun _ _ _ h => h) (Or.inl ⟨by rfl, ?_⟩) (by assumption) ?_
          rotate_left
          · (intro w hSw; (try dsimp only at hSw); go_simp; try with_reducible rfl)
          try simp only [Act.put, List.getElem_toArray, List.getElem_cons_zero, List.getElem_cons_succ, List.setIfInBounds_toArray, List.set_cons_zero, List.set_cons_succ]
          refine wpAnyK_done (by kernel_rfl) ?_
          simp only [List.drop_succ_cons, List.drop_zero]
          clear hHeld2
          go_wp2_with fail
          go_meet
          exact ⟨decide (vh ≤ vd), rfl, ⟨fun h => ⟨trivial, of_decide_eq_true h⟩, fun h => decide_eq_true h.2⟩, K2⟩
        | false =>
          refine wp_region_keeps (fun u => AES W F G H X af nf capf zf pf jf ag ng capg zg pg jg ah nh caph zh ph jh ax nx capx zx px jx u) 10 2 (by kernel_rfl) (by kernel_rfl) (aes_of Q0.out) (fun hHeld0 => ?_)
          refine wpAnyK_take (i := 0) (v := ?_) rfl (by kernel_rfl) (fun _ _ _ h => h) (Or.inl ⟨by rfl, ?_⟩) (by assumption) ?_
          rotate_left
          · (intro w hSw; (try dsimp only at hSw); go_simp; try with_reducible rfl)
          try simp only [Act.put, List.getElem_toArray, List.getElem_cons_zero, List.getElem_cons_succ, List.setIfInBounds_toArray, List.set_cons_zero, List.set_cons_succ]
          refine wpAnyK_take (i := 1) (v := ?_) rfl (by kernel_rfl) (fun _ _ _ h => h) (Or.inl ⟨by rfl, ?_⟩) (by assumption) ?_
          rotate_left
          · (intro w hSw; (try dsimp only at hSw); go_simp; try with_reducible rfl)
          try simp only [Act.put, List.getElem_toArray, List.getElem_cons_zero, List.getElem_cons_succ, List.setIfInBounds_toArray, List.set_cons_zero, List.set_cons_succ]
          refine wpAnyK_take (i := 2) (v := undef) rfl (by kernel_rfl) (fun _ _ _ h => h) (Or.inr ⟨by rfl, rfl⟩) (by assumption) ?_
          try simp only [Act.put, List.getElem_toArray, List.getElem_cons_zero, List.getElem_cons_succ, List.setIfInBounds_toArray, List.set_cons_zero, List.set_cons_succ]
          refine wpAnyK_take (i := 3) (v := undef) rfl (by kernel_rfl) (fun _ _ _ h => h) (Or.inr ⟨by rfl, rfl⟩) (by assumption) ?_
          try simp only [Act.put, List.getElem_toArray, List.getElem_cons_zero, List.getElem_cons_succ, List.setIfInBounds_toArray, List.set_cons_zero, List.set_cons_succ]
          refine wpAnyK_take (i := 4) (v := undef) rfl (by kernel_rfl) (fun _ _ _ h => h) (Or.inr ⟨by rfl, rfl⟩) (by assumption) ?_
          try simp only [Act.put, List.getElem_toArray, List.getElem_cons_zero, List.getElem_cons_succ, List.setIfInBounds_toArray, List.set_cons_zero, List.set_cons_succ]
          refine wpAnyK_take (i := 5) (v := undef) rfl (by kernel_rfl) (fun _ _ _ h => h) (Or.inr ⟨by rfl, rfl⟩) (by assumption) ?_
          try simp only [Act.put, List.getElem_toArray, List.getElem_cons_zero, List.getElem_cons_succ, List.setIfInBounds_toArray, List.set_cons_zero, List.set_cons_succ]
          refine wpAnyK_take (i := 6) (v := undef) rfl (by kernel_rfl) (fun _ _ _ h => h) (Or.inr ⟨by rfl, rfl⟩) (by assumption) ?_
          try simp only [Act.put, List.getElem_toArray, List.getElem_cons_zero, List.getElem_cons_succ, List.setIfInBounds_toArray, List.set_cons_zero, List.set_cons_succ]
          refine wpAnyK_take (i := 7) (v := undef) rfl (by kernel_rfl) (fun _ _ _ h => h) (Or.inr ⟨by rfl, rfl⟩) (by assumption) ?_
          try simp only [Act.put, List.getElem_toArray, List.getElem_cons_zero, List.getElem_cons_succ, List.setIfInBounds_toArray, List.set_cons_zero, List.set_cons_succ]
          refine wpAnyK_take (i := 8) (v := undef) rfl (by kernel_rfl) (fun _ _ _ h => h) (Or.inr ⟨by rfl, rfl⟩) (by assumption) ?_
          try simp only [Act.put, List.getElem_toArray, List.getElem_cons_zero, List.getElem_cons_succ, List.setIfInBounds_toArray, List.set_cons_zero, List.set_cons_succ]
          refine wpAnyK_take (i := 9) (v := undef) rfl (by kernel_rfl) (fun _ _ _ h => h) (Or.inr ⟨by rfl, rfl⟩) (by assumption) ?_
          try simp only [Act.put, List.getElem_toArray, List.getElem_cons_zero, List.getElem_cons_succ, List.setIfInBounds_toArray, List.set_cons_zero, List.set_cons_succ]
          refine wpAnyK_done (by kernel_rfl) ?_
          simp only [List.drop_succ_cons, List.drop_zero]
          clear hHeld0
          go_wp2_with fail
          go_meet
          exact ⟨false, rfl, ⟨fun h => (by simp at h), fun h => (by simp at h)⟩, Q0⟩
      case rest =>
      obtain ⟨bn, rfl, HBN, T5⟩ := hcut
      obtain ⟨w5, rfl⟩ : ∃ u : World, u = wc := ⟨_, rfl⟩
      clear T0 Q0
      have Q5 := Lib.hid (T5.out.call (Below.refl _ _).drew)
      go_upto_region 11 with fail
      refine wp_region_keeps (fun u => AES W F G H X af nf capf zf pf jf ag ng capg zg pg jg ah nh caph zh ph jh ax nx capx zx px jx u) 7 1 (by kernel_rfl) (by kernel_rfl) (aes_of Q5.out) (fun hHeld0 => ?_)
      refine wpAnyK_take (i := 0) (v := ?_) rfl (by kernel_rfl) (fun _ _ _ h => h) (Or.inl ⟨by rfl, ?_⟩) (by assumption) ?_
      rotate_left
      · (intro w hSw; (try dsimp only at hSw); go_simp; try with_reducible rfl)
      try simp only [Act.put, List.getElem_toArray, List.getElem_cons_zero, List.getElem_cons_succ, List.setIfInBounds_toArray, List.set_cons_zero, List.set_cons_succ]
      refine wpAnyK_take (i := 1) (v := ?_) rfl (by kernel_rfl) (fun _ _ _ h => h) (Or.inl ⟨by rfl, ?_⟩) (by assumption) ?_
      rotate_left
      · (intro w hSw; (try dsimp only at hSw); go_simp; try with_reducible rfl)
      try simp only [Act.put, List.getElem_toArray, List.getElem_cons_zero, List.getElem_cons_succ, List.setIfInBounds_toArray, List.set_cons_zero, List.set_cons_succ]
      refine wpAnyK_take (i := 3) (v := ?_) rfl (by kernel_rfl) (fun _ _ _ h => h) (Or.inl ⟨by rfl, ?_⟩) (by assumption) ?_
      rotate_left
      · (intro w hSw; (try dsimp only at hSw); go_simp; try with_reducible rfl)
      try simp only [Act.put, List.getElem_toArray, List.getElem_cons_zero, List.getElem_cons_succ, List.setIfInBounds_toArray, List.set_cons_zero, List.set_cons_succ]
      refine wpAnyK_take (i := 4) (v := ?_) rfl (by kernel_rfl) (fun _ _ _ h => h) (Or.inl ⟨by rfl, ?_⟩) (by assumption) ?_
      rotate_left
      · (intro w hSw; (try dsimp only at hSw); go_simp; try with_reducible rfl)
      try simp only [Act.put, List.getElem_toArray, List.getElem_cons_zero, List.getElem_cons_succ, List.setIfInBounds_toArray, List.set_cons_zero, List.set_cons_succ]
      refine wpAnyK_take (i := 5) (v := ?_) rfl (by kernel_rfl) (fun _ _ _ h => h) (Or.inl ⟨by rfl, ?_⟩) (by assumption) ?_
      rotate_left
      · (intro w hSw; (try dsimp only at hSw); go_simp; try with_reducible rfl)
      try simp only [Act.put, List.getElem_toArray, List.getElem_cons_zero, List.getElem_cons_succ, List.setIfInBounds_toArray, List.set_cons_zero, List.set_cons_succ]
      refine wpAnyK_step (i := 2) rfl (by kernel_rfl) (fun K hK => ?_)
      go_simp
      with_reducible refine (rat_at ax nx capx zx px jx OX.out.good k k rfl (by omega) va HV.out.2.2 _ Q5.out.y.row).mono ?_
      rintro e y1 ⟨rfl, hb⟩
      have K1 := Lib.hid (Q5.out.call hb)
      clear hb
      refine hK.out _ _ (aes_of K1.out) (fun hHeld1 => ?_)
      clear hK K hHeld0
      try simp only [Act.put, List.getElem_toArray, List.getElem_cons_zero, List.getElem_cons_succ, List.setIfInBounds_toArray, List.set_cons_zero, List.set_cons_succ]
      refine wpAnyK_step (i := 6) rfl (by kernel_rfl) (fun K hK => ?_)
      go_simp
      with_reducible refine (ldif_any af nf capf zf pf jf OF.out.good ag ng capg zg pg jg OG.out.good k k rfl (by omega) vd HV.out.2.1 _ K1.out.f.row K1.out.h.row).mono ?_
      rintro e y2 ⟨rfl, hb⟩
      have K2 := Lib.hid (K1.out.call hb)
      clear hb
      refine hK.out _ _ (aes_of K2.out) (fun hHeld2 => ?_)
      clear hK K hHeld1
      try simp only [Act.put, List.getElem_toArray, List.getElem_cons_zero, List.getElem_cons_succ, List.setIfInBounds_toArray, List.set_cons_zero, List.set_cons_succ]
      refine wpAnyK_done (by kernel_rfl) ?_
      simp only [List.drop_succ_cons, List.drop_zero]
      clear hHeld2
      go_wp2_with fail
      go_roundw
      case rel => exact ⟨k + 1, bn, rfl, by go_num, by omega, HNX.out bn HBN.out, K2⟩
      case measure => simp [intOf]; omega
    · obtain rfl : k = 3000 := by omega
      have hlt' : ¬ ((3000 : Nat) : Int) < 3000 := by omega
      obtain ⟨c0, c1, c2, c3, c4, c5⟩ := T0.out.x.box
      obtain ⟨d0, d1, d2, d3, d4, d5⟩ := T0.out.y.box
      have HBB := Lib.hid (show bl = true ↔ ∀ t, ole (eC zh ph jh t) (eC zx px jx t) by
        rw [HBL.out, below_iff OF.out OG.out OH.out]
        constructor
        · intro h t; rw [OX.out.val]; exact h t
        · intro h t; have := h t; rw [OX.out.val] at this; exact this)
      go_wp2_with fail
      clear c0 c1 c2 c3 c4 c5 d0 d1 d2 d3 d4 d5
      with_reducible refine (ratMost_says ah nh caph zh ph jh OH.out.good ax nx capx zx px jx OX.out.good bl HBB.out _ T0.out.x.row T0.out.y.row).mono ?_
      rintro e y1 ⟨rfl, hb⟩
      have HB9 := Lib.hid (T0.out.below.trans (hb.mono T0.out.below.size))
      clear hb
      have tb : (bl == bl) = true := by simp
      go_wp2_with fail
      refine (awake6 _).mono ?_
      rintro e y9 ⟨rfl, hb⟩
      have HBZ := Lib.hid (HB9.out.trans (hb.mono HB9.out.size))
      clear hb
      go_wp2_with fail
      go_ret
      exact ⟨rfl, HBZ.out⟩

end Go.Proofs.Ytcbocglakielnaa
