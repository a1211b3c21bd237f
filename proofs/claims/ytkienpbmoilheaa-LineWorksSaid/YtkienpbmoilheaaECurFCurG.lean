/- Contract of curve.reduced at finite curves, and of curve.Normal. By the verifier's side. -/
import Derived.Test.YtkienpbmoilheaaECurCCurDCurE
namespace Go.Proofs.Ytkienpbmoilheaa
open Go.RowKit
set_option linter.unusedSimpArgs false

theorem Cur3.dr {w w' : World} {b : Nat} {x0 x1 x2 : Value} (h : Cur3 w b x0 x1 x2) (hd : ∃ m, w' = w.drewN m) : Cur3 w' b x0 x1 x2 := by
  obtain ⟨m, rfl⟩ := hd; exact h.drewN m
theorem RowZ.dr {w w' : World} {a : Option Addr} {n cap : Nat} {zs : List Int} (h : RowZ w a n cap zs) (hd : ∃ m, w' = w.drewN m) : RowZ w' a n cap zs := by
  obtain ⟨m, rfl⟩ := hd; exact h.drewN m
theorem below_dr {B : Nat} {u w w' : World} (h : Below B u w) (hd : ∃ m, w' = w.drewN m) : Below B u w' := by
  obtain ⟨m, rfl⟩ := hd; exact h.drewN m

set_option maxHeartbeats 3200000 in
theorem reduced_fin (a : Option Addr) (n cap : Nat) (zs : List Int) (p : Nat) (inc : Int) (g : Good zs p inc) (hf : ¬ zs.getD (zs.length - 1) 0 = infV) (w : World) (h : RowZ w a n cap zs) :
    Calls Try.prog 245 #[curV a n cap p inc] w (GivesNorm zs p inc w) := by
  have hB : Below w.heap.size w ((w.alloc (.cells #[.slice a n cap, .int .i64 p, .int .i64 inc] 24)).alloc (.cells #[.slice none 0 0, .int .i64 0, .int .i64 0] 24)) :=
    ((Below.refl _ _).alloc (Nat.le_refl _) _).alloc (by simp) _
  have HB := Lib.hid hB
  have H := Lib.hid (h.under hB)
  have hlen := h.len
  have hcap := h.le
  have hcm := h.cm
  have hfew := g.few
  have hp1 := g.p1
  have hp2 := g.p2
  have hp3 := g.p3
  have hi0 := g.i0
  have hi1 := g.i1
  have G := Lib.hid g
  have HF := Lib.hid hf
  obtain ⟨x, rfl, _⟩ := h.cell 0 (by omega)
  have hn : n ≤ 400 := by omega
  have hpn : p ≤ n := by omega
  obtain ⟨s, hs⟩ : ∃ s, s + p = n := ⟨n - p, by omega⟩
  have hsn : s ≤ n := by omega
  have r1 : (n : Int) - (p : Int) = (s : Int) := by omega
  have HL := Lib.hid (And.intro hlen hs)
  have hcm2 : (cap : Int) ≤ 9223372036854775807 := by omega
  obtain ⟨F, hFe⟩ : ∃ F, atC zs p inc = F := ⟨_, rfl⟩
  have HE := Lib.hid hFe
  have HBD : Hid (∀ t : Nat, 0 ≤ F t ∧ F t ≤ 1073741824 * ((t : Int) + 1)) := Lib.hid (by rw [← hFe]; exact g.bd hf)
  have HPer : Hid (Per F s p inc) := Lib.hid (by rw [← hFe]; have := g.per hf; rwa [hlen, show n - p = s by omega] at this)
  clear h hB hlen hfew g hf hs hFe hp3
  go_enter Try.func245, Try.ntmps245
  go_wp2_with fail
  refine (index_any (some x) n cap zs _ _ H.out).mono ?_
  intro e w1 hx
  obtain ⟨rfl, rfl⟩ : e = .returned (.int .i64 (-1)) ∧ w1 = ((w.alloc (.cells #[.slice (some x) n cap, .int .i64 p, .int .i64 inc] 24)).alloc (.cells #[.slice none 0 0, .int .i64 0, .int .i64 0] 24)) := by
    rcases hx with ⟨h1, h2, _⟩ | ⟨j, _, _, h3, h4, _⟩
    · exact ⟨h1, h2.symm⟩
    · exact absurd (G.out.inf_iff.1 ⟨j, h3, h4⟩) HF.out
  clear hx
  go_wp2_with fail
  refine (values_any (some x) n cap zs p inc _ H.out G.out).mono ?_
  rintro e w2 ⟨B, hBB, rfl, hb2, hcl⟩
  have HC := Lib.hid hcl
  have KF := Lib.hid ((Cur3.new w (.slice (some x) n cap) (.int .i64 p) (.int .i64 inc) 24).below (((Below.refl _ _).alloc (Nat.le_refl _) (.cells #[.slice none 0 0, .int .i64 0, .int .i64 0] 24)).trans (hb2.mono (by simp))))
  have KR := Lib.hid ((Cur3.new2 w (.slice none 0 0) (.int .i64 0) (.int .i64 0) 24 (.cells #[.slice (some x) n cap, .int .i64 p, .int .i64 inc] 24)).below hb2)
  have HR := Lib.hid (H.out.under hb2)
  have HB2 := Lib.hid (HB.out.trans (hb2.mono HB.out.size))
  clear hb2 hcl hBB
  obtain ⟨c0, c1, c2, f0, f1, f2⟩ := KF.out
  go_wp2_with fail
  refine (leastPeriod_any B (some x) n cap zs p inc s HL.out.2 HF.out _ HC.out).mono ?_
  rintro e w3 ⟨r, hr1, hr2, hr3, hr4, rfl, hd⟩
  rw [HE.out] at hr3 hr4
  have HRR := Lib.hid (And.intro hr3 hr4)
  have D3 := Lib.hid hd
  clear hr3 hr4 hd c0 c1 c2 f0 f1 f2
  obtain ⟨v1, hv1⟩ : ∃ v, F (s + r) = v := ⟨_, rfl⟩
  obtain ⟨v2, hv2⟩ : ∃ v, F s = v := ⟨_, rfl⟩
  have b1 := HBD.out (s + r)
  have b2 := HBD.out s
  rw [hv1] at b1
  rw [hv2] at b2
  have b11 := b1.1
  have b12 : v1 ≤ 1073741824 * 1000 := by omega
  have b21 := b2.1
  have b22 : v2 ≤ 1073741824 * 1000 := by omega
  have HV := Lib.hid (And.intro hv1 hv2)
  clear hv1 hv2 b1 b2
  go_wp2_with fail
  refine (at_i B (some x) n cap zs p inc _ (s + r) (by omega) (by omega) v1 (by rw [HE.out]; exact HV.out.1) _ (HC.out.dr D3.out)).mono ?_
  rintro e w4 ⟨rfl, hd⟩
  have D4 := Lib.hid (dr_trans D3.out hd)
  clear hd
  go_wp2_with fail
  refine (at_i B (some x) n cap zs p inc _ s rfl (by omega) v2 (by rw [HE.out]; exact HV.out.2) _ (HC.out.dr D4.out)).mono ?_
  rintro e w5 ⟨rfl, hd⟩
  have D5 := Lib.hid (dr_trans D4.out hd)
  clear hd
  go_wp2_with fail
  go_loopw [5] (fun s5 wx => ∃ t : Nat, s5 = .int .i64 t ∧ t ≤ s ∧ Hid (∀ u, t ≤ u → u < s → F (u + r) - F u = v1 - v2) ∧ Hid (∃ m, wx = w2.drewN m)) (fun s5 _ => (intOf s5).toNat)
  case atStart => exact ⟨s, rfl, Nat.le_refl _, fun u h1 h2 => by omega, D5.out⟩
  case round =>
    obtain ⟨t, rfl, hts, hok, hdr⟩ := hrel
    obtain ⟨w6, rfl⟩ : ∃ u : World, u = wr := ⟨_, rfl⟩
    have htr : (t : Int) + (r : Int) ≤ (cap : Int) := by omega
    have htr2 : t + r ≤ n := by omega
    by_cases h0 : t = 0
    · have N0 : Hid (NormC zs p inc (zs.take (t + r)) r (v1 - v2)) := Lib.hid (.inl ⟨HF.out, t, by
        rw [HE.out]
        have := normOf_found (s' := t) HPer.out hp1 hr1 hr2 HRR.out.1 HRR.out.2 hts (fun u h1 h2 => by rw [HV.out.1, HV.out.2]; exact hok.out u h1 h2) (.inl h0)
        rwa [HV.out.1, HV.out.2] at this, rfl, by rw [HL.out.1]; exact htr2, hr2⟩)
      have ht0 : ¬ 0 < (t : Int) := by omega
      clear h0
      obtain ⟨c0, c1, c2, f0, f1, f2⟩ := KF.out.dr hdr.out
      go_wp2_with fail
      refine (clone_any x (t + r) cap (zs.take (t + r)) _ ((HR.out.dr hdr.out).take (t + r) htr2) (by omega)).mono ?_
      rintro e w7 ⟨a2, cc, rfl, hb7, hr7, hx7⟩
      clear c0 c1 c2 f0 f1 f2
      obtain ⟨c0, c1, c2, f0, f1, f2⟩ := (KR.out.dr hdr.out).below hb7
      have hbw := below_dr HB2.out hdr.out
      have hlt := (KR.out.dr hdr.out).lt
      have HP := Lib.hid (norm_post (b := w.heap.size + 1) (hbw.trans (hb7.mono hbw.size)) (Nat.le_succ _) hr7 (fun y hy => by have := hx7 y hy; omega) r (v1 - v2) N0.out)
      clear hb7 hr7 hx7 hbw hlt
      go_wp2_with fail
      exact bodyPost_ret (v := curV a2 (t + r) cc r (v1 - v2)) (by simp [results, Try.results245, go_sem, c0, c1, c2]) rfl HP.out
    · obtain ⟨k, rfl⟩ : ∃ k, t = k + 1 := ⟨t - 1, by omega⟩
      clear h0
      obtain ⟨v3, hv3⟩ : ∃ v, F (k + r) = v := ⟨_, rfl⟩
      obtain ⟨v4, hv4⟩ : ∃ v, F k = v := ⟨_, rfl⟩
      have b3 := HBD.out (k + r)
      have b4 := HBD.out k
      rw [hv3] at b3
      rw [hv4] at b4
      have b31 := b3.1
      have b32 : v3 ≤ 1073741824 * 1000 := by omega
      have b41 := b4.1
      have b42 : v4 ≤ 1073741824 * 1000 := by omega
      have HV3 := Lib.hid (And.intro hv3 hv4)
      clear hv3 hv4 b3 b4
      by_cases hd : v3 - v4 = v1 - v2
      · have hd' : (v3 - v4 == v1 - v2) = true := by simpa using hd
        have HD := Lib.hid hd
        clear hd
        go_wp2_with fail
        refine (at_i B (some x) n cap zs p inc _ (k + r) (by omega) (by omega) v3 (by rw [HE.out]; exact HV3.out.1) _ (HC.out.dr hdr.out)).mono ?_
        rintro e w7 ⟨rfl, hd1⟩
        have D7 := Lib.hid (dr_trans hdr.out hd1)
        clear hd1
        go_wp2_with fail
        refine (at_i B (some x) n cap zs p inc _ k (by omega) (by omega) v4 (by rw [HE.out]; exact HV3.out.2) _ (HC.out.dr D7.out)).mono ?_
        rintro e w8 ⟨rfl, hd2⟩
        have D8 := Lib.hid (dr_trans D7.out hd2)
        clear hd2
        go_wp2_with fail
        go_roundw
        case rel =>
          refine ⟨k, by go_num, by omega, fun u h1 h2 => ?_, D8.out⟩
          by_cases huk : u = k
          · subst huk; rw [HV3.out.1, HV3.out.2]; exact HD.out
          · exact hok.out u (by omega) h2
        case measure => simp [intOf]; try omega
      · have hd' : (v3 - v4 == v1 - v2) = false := by simpa using hd
        have N0 : Hid (NormC zs p inc (zs.take (k + 1 + r)) r (v1 - v2)) := Lib.hid (.inl ⟨HF.out, k + 1, by
          rw [HE.out]
          have := normOf_found (s' := k + 1) HPer.out hp1 hr1 hr2 HRR.out.1 HRR.out.2 hts (fun u h1 h2 => by rw [HV.out.1, HV.out.2]; exact hok.out u h1 h2) (.inr (by rw [Nat.add_sub_cancel, HV3.out.1, HV3.out.2, HV.out.1, HV.out.2]; exact hd))
          rwa [HV.out.1, HV.out.2] at this, rfl, by rw [HL.out.1]; exact htr2, hr2⟩)
        clear hd
        go_wp2_with fail
        refine (at_i B (some x) n cap zs p inc _ (k + r) (by omega) (by omega) v3 (by rw [HE.out]; exact HV3.out.1) _ (HC.out.dr hdr.out)).mono ?_
        rintro e w7 ⟨rfl, hd1⟩
        have D7 := Lib.hid (dr_trans hdr.out hd1)
        clear hd1
        go_wp2_with fail
        refine (at_i B (some x) n cap zs p inc _ k (by omega) (by omega) v4 (by rw [HE.out]; exact HV3.out.2) _ (HC.out.dr D7.out)).mono ?_
        rintro e w8 ⟨rfl, hd2⟩
        have D8 := Lib.hid (dr_trans D7.out hd2)
        clear hd2
        obtain ⟨c0, c1, c2, f0, f1, f2⟩ := KF.out.dr D8.out
        go_wp2_with fail
        refine (clone_any x (k + 1 + r) cap (zs.take (k + 1 + r)) _ ((HR.out.dr D8.out).take (k + 1 + r) htr2) (by omega)).mono ?_
        rintro e w9 ⟨a2, cc, rfl, hb7, hr7, hx7⟩
        clear c0 c1 c2 f0 f1 f2
        obtain ⟨c0, c1, c2, f0, f1, f2⟩ := (KR.out.dr D8.out).below hb7
        have hbw := below_dr HB2.out D8.out
        have hlt := (KR.out.dr D8.out).lt
        have HP := Lib.hid (norm_post (b := w.heap.size + 1) (hbw.trans (hb7.mono hbw.size)) (Nat.le_succ _) hr7 (fun y hy => by have := hx7 y hy; omega) r (v1 - v2) N0.out)
        clear hb7 hr7 hx7 hbw hlt
        go_wp2_with fail
        exact bodyPost_ret (v := curV a2 (k + 1 + r) cc r (v1 - v2)) (by simp [results, Try.results245, go_sem, c0, c1, c2]) rfl HP.out

theorem reduced_any (a : Option Addr) (n cap : Nat) (zs : List Int) (p : Nat) (inc : Int) (g : Good zs p inc) (w : World) (h : RowZ w a n cap zs) :
    Calls Try.prog 245 #[curV a n cap p inc] w (GivesNorm zs p inc w) := by
  by_cases hf : zs.getD (zs.length - 1) 0 = infV
  · have hl : ∃ i, i < zs.length ∧ zs.getD i 0 = infV ∧ ∀ j, j < i → ¬ zs.getD j 0 = infV := by
      have : ∀ m, (∃ i, i ≤ m ∧ i < zs.length ∧ zs.getD i 0 = infV ∧ ∀ j, j < i → ¬ zs.getD j 0 = infV) ∨ ∀ j, j ≤ m → j < zs.length → ¬ zs.getD j 0 = infV := by
        intro m
        induction m with
        | zero =>
          by_cases h0 : 0 < zs.length ∧ zs.getD 0 0 = infV
          · exact .inl ⟨0, Nat.le_refl _, h0.1, h0.2, fun j hj => absurd hj (Nat.not_lt_zero _)⟩
          · exact .inr fun j hj hl => by obtain rfl : j = 0 := by omega
                                         exact fun hx => h0 ⟨hl, hx⟩
        | succ m ih =>
          rcases ih with ⟨i, h1, h2⟩ | hno
          · exact .inl ⟨i, by omega, h2⟩
          · by_cases h0 : m + 1 < zs.length ∧ zs.getD (m + 1) 0 = infV
            · exact .inl ⟨m + 1, Nat.le_refl _, h0.1, h0.2, fun j hj => hno j (by omega) (by omega)⟩
            · refine .inr fun j hj hl => ?_
              by_cases he : j = m + 1
              · subst he; exact fun hx => h0 ⟨hl, hx⟩
              · exact hno j (by omega) hl
      rcases this (zs.length - 1) with ⟨i, _, h2⟩ | hno
      · exact ⟨i, h2⟩
      · have h1 := g.p1
        have h3 := g.p3
        exact absurd hf (hno _ (Nat.le_refl _) (by omega))
    obtain ⟨i, hi, hz, hj⟩ := hl
    exact reduced_inf a n cap zs p inc g i hi hz hj w h
  · exact reduced_fin a n cap zs p inc g hf w h

end Go.Proofs.Ytkienpbmoilheaa

namespace Go.Proofs.Ytkienpbmoilheaa
open Go.RowKit
set_option linter.unusedSimpArgs false

/-- A curve and an error's number are handed back. -/
def GivesNorm2 (zs : List Int) (p : Nat) (inc : Int) (w : World) (e : Ending) (w' : World) : Prop :=
  ∃ a n cap zs' p' inc', e = .returned (.tuple #[curV a n cap (p' : Nat) inc', .int .i64 0]) ∧ Below w.heap.size w w' ∧ RowZ w' a n cap zs' ∧ NormC zs p inc zs' p' inc' ∧ ∀ x, a = some x → w.heap.size ≤ x.block

theorem norm_post2 {w w2 : World} {b : Nat} (hb : Below w.heap.size w w2) (hwb : w.heap.size ≤ b) {a : Option Addr} {n cap : Nat} {zs' : List Int} (hr : RowZ w2 a n cap zs') (hlt : ∀ x, a = some x → b < x.block) (p' : Nat) (inc' : Int)
    {zs : List Int} {p : Nat} {inc : Int} (hn : NormC zs p inc zs' p' inc') :
    GivesNorm2 zs p inc w (.returned (.tuple #[curV a n cap p' inc', .int .i64 0])) (((w2.setCell ⟨b, 0, none⟩ (.slice a n cap)).setCell ⟨b, 1, none⟩ (.int .i64 p')).setCell ⟨b, 2, none⟩ (.int .i64 inc')) := by
  obtain ⟨a2, n2, cap2, zs2, p2, inc2, he, h1, h2, h3, h4⟩ := norm_post hb hwb hr hlt p' inc' hn
  simp only [Ending.returned.injEq, curV, Value.agg.injEq] at he
  simp at he
  obtain ⟨⟨rfl, rfl, rfl⟩, h5, rfl⟩ := he
  obtain rfl : p' = p2 := by omega
  exact ⟨a, n, cap, zs2, p', inc', rfl, h1, h2, h3, h4⟩

/-- Whether two curves are written in the same way. -/
def sameB (zs : List Int) (p inc : Int) (ys : List Int) (q jnc : Int) : Bool := decide (zs = ys) && decide (p = q) && decide (inc = jnc)

theorem sameB_len {zs ys : List Int} {p inc q jnc : Int} (h : ¬ zs.length = ys.length) : sameB zs p inc ys q jnc = false := by
  unfold sameB; rw [decide_eq_false (show ¬ zs = ys from fun e => h (by rw [e])), Bool.false_and, Bool.false_and]
theorem sameB_per {zs ys : List Int} {p inc q jnc : Int} (h : ¬ p = q) : sameB zs p inc ys q jnc = false := by
  unfold sameB; rw [decide_eq_false h, Bool.and_false, Bool.false_and]
theorem sameB_inc {zs ys : List Int} {p inc q jnc : Int} (h : ¬ inc = jnc) : sameB zs p inc ys q jnc = false := by
  unfold sameB; rw [decide_eq_false h, Bool.and_false]
theorem sameB_at {zs ys : List Int} {p inc q jnc : Int} {i : Nat} (h : ¬ zs.getD i 0 = ys.getD i 0) : sameB zs p inc ys q jnc = false := by
  unfold sameB; rw [decide_eq_false (show ¬ zs = ys from fun e => h (by rw [e])), Bool.false_and, Bool.false_and]
theorem sameB_yes {zs ys : List Int} {p inc q jnc : Int} (hl : zs.length = ys.length) (hp : p = q) (hi : inc = jnc) (h : ∀ i, i < zs.length → zs.getD i 0 = ys.getD i 0) : sameB zs p inc ys q jnc = true := by
  unfold sameB; rw [decide_eq_true (list_ext_getD hl h), decide_eq_true hp, decide_eq_true hi]; rfl
set_option maxHeartbeats 1600000 in
theorem rsame_any (a : Option Addr) (n cap : Nat) (zs : List Int) (p inc : Int) (a2 : Option Addr) (n2 cap2 : Nat) (ys : List Int) (q jnc : Int) (b : Bool) (hb : sameB zs p inc ys q jnc = b) (w : World) (h : RowZ w a n cap zs) (h2 : RowZ w a2 n2 cap2 ys) :
    Calls Try.prog 25 #[curV a n cap p inc, curV a2 n2 cap2 q jnc] w (Says (.bool b) w) := by
  have hB : Below w.heap.size w ((w.alloc (.cells #[.slice a n cap, .int .i64 p, .int .i64 inc] 24)).alloc (.cells #[.slice a2 n2 cap2, .int .i64 q, .int .i64 jnc] 24)) :=
    ((Below.refl _ _).alloc (Nat.le_refl _) _).alloc (by simp) _
  have HBl := Lib.hid hB
  have H := Lib.hid (h.under hB)
  have H2 := Lib.hid (h2.under hB)
  have HB := Lib.hid hb
  have hn := h.sm
  have hn2 := h2.sm
  have hl := h.len
  have hl2 := h2.len
  subst hl hl2
  clear h h2 hb hB
  by_cases e1 : zs.length = ys.length
  · have t1 : ((zs.length : Int) != (ys.length : Int)) = false := by simp [e1]
    have E1 := Lib.hid e1
    by_cases e2 : p = q
    · have t2 : (p != q) = false := by simp [e2]
      by_cases e3 : inc = jnc
      · have t3 : (inc != jnc) = false := by simp [e3]
        have E := Lib.hid (And.intro e2 e3)
        have hle : zs.length ≤ ys.length := by omega
        clear e1 e2 e3
        go_enter Try.func25, Try.ntmps25
        go_wp2_with fail
        have KF := Lib.hid ((Cur3.new w (.slice a zs.length cap) (.int .i64 p) (.int .i64 inc) 24).alloc (.cells #[.slice a2 ys.length cap2, .int .i64 q, .int .i64 jnc] 24))
        have KG := Lib.hid (Cur3.new2 w (.slice a2 ys.length cap2) (.int .i64 q) (.int .i64 jnc) 24 (.cells #[.slice a zs.length cap, .int .i64 p, .int .i64 inc] 24))
        generalize (w.alloc (.cells #[.slice a zs.length cap, .int .i64 p, .int .i64 inc] 24)).alloc (.cells #[.slice a2 ys.length cap2, .int .i64 q, .int .i64 jnc] 24) = w0 at HBl H H2 KF KG ⊢
        go_loopw [5] (fun s5 wx => ∃ k : Nat, s5 = .int .i64 k ∧ k ≤ zs.length ∧ Hid (∀ i, i < k → zs.getD i 0 = ys.getD i 0) ∧ Hid (∃ m, wx = w0.drewN m)) (fun s5 _ => zs.length - (intOf s5).toNat)
        case atStart => exact ⟨0, rfl, Nat.zero_le _, fun i hi => absurd hi (Nat.not_lt_zero _), 0, rfl⟩
        case round =>
          obtain ⟨k, rfl, hk, hall, hdr⟩ := hrel
          obtain ⟨w1, rfl⟩ : ∃ u : World, u = wr := ⟨_, rfl⟩
          obtain ⟨c0, c1, c2, f0, f1, f2⟩ := KF.out.dr hdr.out
          obtain ⟨d0, d1, d2, g0, g1, g2⟩ := KG.out.dr hdr.out
          by_cases hlt : k < zs.length
          · obtain ⟨x, rfl, hcx⟩ := (H.out.dr hdr.out).cell k hlt
            obtain ⟨y, rfl, hcy⟩ := (H2.out.dr hdr.out).cell k (by omega)
            obtain ⟨v1, hv1⟩ : ∃ v, zs.getD k 0 = v := ⟨_, rfl⟩
            obtain ⟨v2, hv2⟩ : ∃ v, ys.getD k 0 = v := ⟨_, rfl⟩
            rw [hv1] at hcx
            rw [hv2] at hcy
            have HV := Lib.hid (And.intro hv1 hv2)
            have hky : (k : Int) < (ys.length : Int) := by omega
            clear hv1 hv2
            by_cases hd : v1 = v2
            · have hd' : (v1 != v2) = false := by simpa using hd
              have HD := Lib.hid hd
              clear hd
              go_wp2_with fail
              go_quiet (fail)
              go_wp2_with fail
              go_roundw
              case rel =>
                refine ⟨k + 1, by go_num, by omega, fun i hi => ?_, hdr_add hdr.out nq⟩
                by_cases he : i = k
                · subst he; rw [HV.out.1, HV.out.2]; exact HD.out
                · exact hall.out i (by omega)
              case measure => simp [intOf]; omega
            · have hd' : (v1 != v2) = true := by simpa using hd
              have HD := Lib.hid hd
              clear hd
              go_wp2_with fail
              go_quiet (fail)
              go_wp2_with fail
              go_ret
              refine ⟨?_, (below_dr HBl.out hdr.out).drewN nq⟩
              rw [← HB.out, sameB_at (i := k) (by rw [HV.out.1, HV.out.2]; exact HD.out)]; rfl
          · obtain rfl : k = zs.length := by omega
            go_wp2_with fail
            go_ret
            refine ⟨?_, below_dr HBl.out hdr.out⟩
            rw [← HB.out, sameB_yes E1.out E.out.1 E.out.2 hall.out]; rfl
      · have t3 : (inc != jnc) = true := by simpa using e3
        have e : b = false := by rw [← HB.out, sameB_inc e3]
        subst e
        clear e1 e2 e3
        go_enter Try.func25, Try.ntmps25
        go_wp2_with fail
        go_ret
        exact ⟨rfl, HBl.out⟩
    · have t2 : (p != q) = true := by simpa using e2
      have e : b = false := by rw [← HB.out, sameB_per e2]
      subst e
      clear e1 e2
      go_enter Try.func25, Try.ntmps25
      go_wp2_with fail
      go_ret
      exact ⟨rfl, HBl.out⟩
  · have t1 : ((zs.length : Int) != (ys.length : Int)) = true := by simp; omega
    have e : b = false := by rw [← HB.out, sameB_len e1]
    subst e
    clear e1
    go_enter Try.func25, Try.ntmps25
    go_wp2_with fail
    go_ret
    exact ⟨rfl, HBl.out⟩

end Go.Proofs.Ytkienpbmoilheaa
