/- The walk of LineScales. By the verifier's side. -/
import Derived.Test.YtkienpbmoilheaaCLnKLnL
import Derived.Test.YtkienpbmoilheaaCLnMLnS
import Derived.Test.YtkienpbmoilheaaCCfUCfZ
namespace Go.Proofs.Ytkienpbmoilheaa
open Go.RowKit
set_option linter.unusedSimpArgs false
set_option linter.unusedVariables false
/-- The first i packets are scaled. -/
def sclL (k : Int) (lp : List Pk) (i : Nat) : List Pk := (lp.take i).map (scaleP k) ++ lp.drop i
theorem sclL_zero (k : Int) (lp : List Pk) : sclL k lp 0 = lp := by unfold sclL; simp
theorem sclL_all (k : Int) (lp : List Pk) : sclL k lp lp.length = lp.map (scaleP k) := by unfold sclL; simp
theorem sclL_len (k : Int) (lp : List Pk) (i : Nat) : (sclL k lp i).length = lp.length := by unfold sclL; simp; omega
theorem sclL_at (k : Int) {lp : List Pk} {i : Nat} {q : Pk} (h : lp[i]? = some q) : (sclL k lp i)[i]? = some q := by
  have hi := (List.getElem?_eq_some_iff.1 h).1
  unfold sclL
  rw [List.getElem?_append_right (by simp; omega), List.getElem?_drop, List.length_map, List.length_take, Nat.min_eq_left (by omega), Nat.sub_self, Nat.add_zero]
  exact h
theorem sclL_succ (k : Int) {lp : List Pk} {i : Nat} {q : Pk} (h : lp[i]? = some q) : sclL k lp (i + 1) = (sclL k lp i).set i ⟨q.f, q.t, q.s * k⟩ := by
  have hi := (List.getElem?_eq_some_iff.1 h).1
  refine List.ext_getElem? fun j => ?_
  by_cases e : j = i
  · subst e
    rw [List.getElem?_set_self (by rw [sclL_len]; omega)]
    unfold sclL
    rw [List.getElem?_append_left (by simp; omega), List.getElem?_map, List.getElem?_take, if_pos (by omega), h]; rfl
  · rw [List.getElem?_set_ne (fun x => e x.symm)]
    unfold sclL
    by_cases c : j < i
    · rw [List.getElem?_append_left (by simp; omega), List.getElem?_append_left (by simp; omega), List.getElem?_map, List.getElem?_map, List.getElem?_take, List.getElem?_take, if_pos (by omega), if_pos c]
    · rw [List.getElem?_append_right (by simp; omega), List.getElem?_append_right (by simp; omega), List.getElem?_drop, List.getElem?_drop]
      simp only [List.length_map, List.length_take]
      congr 1
      omega
/-- A store of a packet's size. -/
theorem PkO.setSz {u : World} {B off : Nat} {l : List Pk} (h : PkO u B off l) {i : Nat} {q : Pk} (hq : l[i]? = some q) (s : Int) : PkO (u.setCell ⟨B, off + i * 3 + 2, none⟩ (.int .i64 s)) B off (l.set i ⟨q.f, q.t, s⟩) := by
  obtain ⟨cs, t, hb, hc⟩ := h
  have hi := (List.getElem?_eq_some_iff.1 hq).1
  refine ⟨_, t, block_set _ _ hb, fun j r hj => ?_⟩
  by_cases e : j = i
  · subst e
    rw [List.getElem?_set_self hi] at hj
    cases hj
    obtain ⟨h1, h2, h3⟩ := hc j _ hq
    have k3 := (Array.getElem?_eq_some_iff.1 h3).1
    refine ⟨?_, ?_, ?_⟩
    · rw [Array.getElem?_setIfInBounds_ne (by omega)]; exact h1
    · rw [Array.getElem?_setIfInBounds_ne (by omega)]; exact h2
    · rw [Array.getElem?_setIfInBounds_self_of_lt k3]
  · rw [List.getElem?_set_ne (fun x => e x.symm)] at hj
    obtain ⟨h1, h2, h3⟩ := hc j r hj
    refine ⟨?_, ?_, ?_⟩ <;> rw [Array.getElem?_setIfInBounds_ne (by omega)] <;> assumption
/-- While the sizes are scaled. -/
structure Scl (w : World) (k : Int) (lp : List Pk) (n g i : Nat) (aq : Option Addr) (wx : World) : Prop where
  bel : Below w.heap.size w wx
  own : n = 0 ∨ aq = some ⟨g, 0, none⟩ ∧ w.heap.size ≤ g ∧ PkO wx g 0 (sclL k lp i)
theorem Scl.next {w wx : World} {k : Int} {lp : List Pk} {n g i : Nat} {aq : Option Addr} {q : Pk} (h : Scl w k lp n g i aq wx) (hi : i < n) (hq : lp[i]? = some q) : Scl w k lp n g (i + 1) aq (wx.setCell ⟨g, i * 3 + 2, none⟩ (.int .i64 (q.s * k))) := by
  rcases h.own with h0 | ⟨h1, h2, h3⟩
  · omega
  · refine ⟨h.bel.setCell h2 _, .inr ⟨h1, h2, ?_⟩⟩
    have := h3.setSz (sclL_at k hq) (q.s * k)
    rw [sclL_succ k hq]
    rwa [Nat.zero_add] at this
theorem ln_ok {lp : List Pk} {N : Nat} {M : Int} (hD : DrwF N 3 M lp) (hv : vcode lp = 0) {C : Int} (h1 : 1 ≤ C) (h2 : C ≤ 4000) {T : Int} (h3 : 0 ≤ T) (h4 : T ≤ 2000) : lnCode C 3 T lp = 0 := by
  unfold lnCode
  rw [if_pos hv, if_neg]
  rintro (h | h | h | h | h | h | ⟨i, hi, h⟩)
  all_goals first | omega | skip
  have := hD.ok (lp.getD i default) (by rw [List.getD_eq_getElem?_getD, List.getElem?_eq_getElem hi]; exact List.getElem_mem _)
  omega
theorem drw_scale {lp : List Pk} (hD : DrwF 12 3 40 lp) {k : Int} (h1 : 1 ≤ k) (h2 : k ≤ 9) : DrwF 12 3 360 (lp.map (scaleP k)) := by
  refine ⟨by rw [List.length_map]; exact hD.len, List.pairwise_map.2 (hD.asc.imp fun h => h), fun q hq => ?_⟩
  obtain ⟨y, hy, rfl⟩ := List.mem_map.1 hq
  obtain ⟨e1, e2, e3, e4, e5, e6⟩ := hD.ok y hy
  have m1 : y.s * k ≤ 40 * 9 := Int.mul_le_mul e6 h2 (by omega) (by omega)
  have m2 : 1 * 1 ≤ y.s * k := Int.mul_le_mul e5 h1 (by omega) (by omega)
  exact ⟨e1, e2, e3, e4, by show 1 ≤ y.s * k; omega, by show y.s * k ≤ 360; omega⟩
set_option maxRecDepth 100000 in
set_option maxHeartbeats 6400000 in
theorem lineScales_walk (W : World) (a : Option Addr) (n cap : Nat) (hrow : RowAt W a n cap) :
    Calls Try.prog 13 #[.slice a n cap] W fun e w' => e = .returned (.bool true) ∧ Below W.heap.size W w' := by
  have HR := Lib.hid hrow
  clear hrow
  go_enter Try.func13, Try.ntmps13
  go_wp2_with fail
  refine (new_any a n cap _ HR.out).mono ?_
  rintro e ww1 ⟨rfl, hb1, hz1', ra, rn, rc, hs1⟩
  have HB1 := Lib.hid hb1
  have HS1 := Lib.hid hs1
  have hbl : W.heap.size < ww1.heap.size := by omega
  clear hb1 hz1' hs1
  go_wp2_with fail
  refine (traffic14 12 (by omega) 3 40 (by decide) (by decide) _ ra rn rc _ HS1.out).mono ?_
  rintro e ww2 ⟨lp, a1, n1, c1, rfl, hdr, hs2, he2, hr2, hx2⟩
  have HD := Lib.hid hdr
  have HH2 := Lib.hid ((Hld13.start HS1.out).call hs2 he2)
  have P2 := Lib.hid hr2
  have X2 := Lib.hid (show ∀ x, a1 = some x → ¬ x.block = W.heap.size from fun x hx => by have := hx2 x hx; omega)
  have HLEN := Lib.hid hr2.len
  have hn12 : n1 ≤ 12 := by rw [← hr2.len]; exact hdr.len
  have HVC := Lib.hid (hdr.vcode (by omega) (by omega) (by omega))
  clear hdr hs2 he2 hr2 hx2
  go_wp2_with fail
  refine (n_any 30 (by omega) (by omega) _ ra rn rc _ (HH2.out.at HS1.out)).mono ?_
  rintro e ww3 ⟨z, ⟨hz0, hz1⟩, rfl, hs3, he3⟩
  have HH3 := Lib.hid (HH2.out.call hs3 he3.apart)
  have P3 := Lib.hid (pkR_apartZ P2.out he3.apart X2.out)
  clear hs3 he3 HH2 P2
  obtain ⟨C, hC⟩ : ∃ C, 1 + z = C := ⟨_, rfl⟩
  have hwz : IntKind.i64.wrap (1 + z) = C := by rw [hC]; exact IntWalk.i64_in _ ⟨by omega, by omega⟩
  have hC1 : 1 ≤ C := by omega
  have hC2 : C ≤ 30 := by omega
  clear hz0 hz1 hC
  go_wp2_with fail
  refine (n_any 9 (by omega) (by omega) _ ra rn rc _ (HH3.out.at HS1.out)).mono ?_
  rintro e ww4 ⟨y, ⟨hy0, hy1⟩, rfl, hs4, he4⟩
  have HH4 := Lib.hid (HH3.out.call hs4 he4.apart)
  have P4 := Lib.hid (pkR_apartZ P3.out he4.apart X2.out)
  clear hs4 he4 HH3 P3
  obtain ⟨K, hK⟩ : ∃ K, 1 + y = K := ⟨_, rfl⟩
  have hwy : IntKind.i64.wrap (1 + y) = K := by rw [hK]; exact IntWalk.i64_in _ ⟨by omega, by omega⟩
  have hK1 : 1 ≤ K := by omega
  have hK2 : K ≤ 9 := by omega
  clear hy0 hy1 hK
  have HFIN := Lib.hid (show ∀ wx, Below ww4.heap.size ww4 wx → Below W.heap.size W wx from fun wx hx => HB1.out.trans ((hldZ_below HH4.out hx).ap.below (Nat.le_refl _) HB1.out.size))
  have hCK : 1 ≤ C * K ∧ C * K ≤ 270 := by
    have m1 : C * K ≤ 30 * 9 := Int.mul_le_mul hC2 hK2 (by omega) (by omega)
    have m2 : 1 * 1 ≤ C * K := Int.mul_le_mul hC1 hK1 (by omega) (by omega)
    omega
  go_upto_region 3 with fail
  go_wp2_with (at_builtin; refine wpList_append_pk rfl _ _ rfl ww4.heap.size _ 0 [] rfl (World.ownsRow_made ww4 #[] 0 (Nat.le_refl _) (Nat.zero_le _) rfl) a1 n1 c1 lp rfl (P4.out.under ((Below.refl _ _).alloc (Nat.le_refl _) _)) (by omega) (by simp) ?_)
  intro v5 ww5 ho5 hb5
  try simp only [Nat.zero_add, List.nil_append] at ho5
  obtain ⟨_, aq, cq, rfl, hq1, hq2, hq3, hq4⟩ := pkO_of_owns ho5
  obtain ⟨g, hg⟩ : ∃ g, n1 = 0 ∨ aq = some ⟨g, 0, none⟩ ∧ ww4.heap.size ≤ g ∧ PkO ww5 g 0 lp := by
    rcases hq4 with ⟨_, h⟩ | ⟨g, h1, h2, h3⟩
    · exact ⟨0, .inl h⟩
    · exact ⟨g, .inr ⟨h1, h2, h3⟩⟩
  have HQ := Lib.hid (And.intro hq1 hq2)
  have HA := Lib.hid (show Scl ww4 K lp n1 g 0 aq ww5 from ⟨((Below.refl _ _).alloc (Nat.le_refl _) _).trans (hb5.mono (Nat.le_refl _)), by rw [sclL_zero]; exact hg⟩)
  clear ho5 hb5 hq1 hq2 hq3 hq4 hg
  go_wp2_with fail
  go_loopw [28] (fun vi wx => ∃ i : Nat, vi = .int .i64 i ∧ i ≤ n1 ∧ Hid (Scl ww4 K lp n1 g i aq wx)) (fun vi _ => n1 - (intOf vi).toNat)
  case atStart => exact ⟨0, by go_num, Nat.zero_le _, HA⟩
  case round =>
    obtain ⟨i, rfl, hi, HI⟩ := hrel
    obtain ⟨wi, rfl⟩ : ∃ u : World, u = wr := ⟨_, rfl⟩
    by_cases hlt : i < n1
    · have hlI : (i : Int) < (n1 : Int) := by omega
      obtain ⟨hag, hgs, hpo⟩ : aq = some ⟨g, 0, none⟩ ∧ ww4.heap.size ≤ g ∧ PkO wi g 0 (sclL K lp i) := by
        rcases HI.out.own with h | h
        · omega
        · exact h
      have hq : lp[i]? = some (lp.getD i default) := by rw [List.getD_eq_getElem?_getD, List.getElem?_eq_getElem (by rw [HLEN.out]; exact hlt)]; rfl
      obtain ⟨q, hqe⟩ : ∃ q, lp.getD i default = q := ⟨_, rfl⟩
      rw [hqe] at hq
      have HN := Lib.hid (HI.out.next hlt hq)
      have c2 := (hpo.cells i q (sclL_at K hq)).2.2
      rw [Nat.zero_add] at c2
      have cf := hpo.frozen (i * 3 + 2)
      have hqk := HD.out.ok q (List.mem_of_getElem? hq)
      have m1 : q.s * K ≤ 40 * 9 := Int.mul_le_mul hqk.2.2.2.2.2 hK2 (by omega) (by omega)
      have m2 : 1 * 1 ≤ q.s * K := Int.mul_le_mul hqk.2.2.2.2.1 hK1 (by omega) (by omega)
      have hwm : IntKind.i64.wrap (q.s * K) = q.s * K := IntWalk.i64_in _ ⟨by omega, by omega⟩
      have hcl := HQ.out.1
      have hcm := HQ.out.2
      subst hag
      clear hqe hq hpo hqk m1 m2
      go_wp2_with fail
      go_roundw
      case rel => exact ⟨i + 1, by go_num, by omega, HN⟩
      case measure => first | (simp [intOf]; done) | (simp [intOf]; omega)
    · obtain rfl : i = n1 := by omega
      have hlI : ¬ (i : Int) < (i : Int) := by omega
      have HPQ := Lib.hid (show PkR wi aq i cq (lp.map (scaleP K)) from by
        have hd := drw_scale HD.out hK1 hK2
        refine ⟨by rw [List.length_map]; exact HLEN.out, HQ.out.1, by omega, HQ.out.2, ?_, hd.bd (by omega) (by omega) (by omega)⟩
        rcases HI.out.own with h | ⟨h1, h2, h3⟩
        · exact .inl ⟨h, fun _ _ => trivial⟩
        · have := h3.cells
          rw [show i = lp.length from HLEN.out.symm, sclL_all] at this
          exact .inr ⟨g, 0, h1, this⟩)
      have HBI := Lib.hid HI.out.bel
      have HPP := Lib.hid (P4.out.under HI.out.bel)
      have HL1 := Lib.hid (ln_ok HD.out HVC.out hC1 (by omega) (show (0 : Int) ≤ ((90 : Nat) : Int) by omega) (by omega))
      have HL2 := Lib.hid (ln_ok (drw_scale HD.out hK1 hK2) ((drw_scale HD.out hK1 hK2).vcode (by omega) (by omega) (by omega)) hCK.1 (by omega) (show (0 : Int) ≤ ((90 : Nat) : Int) by omega) (by omega))
      have hr1 : Calls Try.prog 80 #[.int .i64 C, .int .i64 3, .slice a1 i c1, .int .i64 90] wi fun e w' => ∃ v, e = .returned (.tuple #[v, .int .i64 0]) ∧ Below wi.heap.size wi w' ∧ RunR w' v i 3 91 (lnDone C lp 90) (fun c t => sentF lp (c : Int) (lineS C lp t)) :=
        lrun16_r a1 i c1 lp C 3 90 HL1.out wi HPP.out
      have HR1 := Lib.hid hr1
      clear hr1 HI
      go_wp2_with fail
      refine HR1.out.mono ?_
      rintro e w1 ⟨v, rfl, hb1, hr1⟩
      have B1 := Lib.hid (HBI.out.trans (hb1.mono HBI.out.size))
      have Q1 := Lib.hid (HPQ.out.under hb1)
      obtain ⟨da, dc, S, off, rfl, hd, hs⟩ := hr1.ex
      have D1 := Lib.hid hd
      clear hb1 hr1 hd hs HBI HPP HPQ
      go_upto_region 10 with fail
      obtain ⟨V2, hV2⟩ : ∃ V2, w1.alloc (.cells #[.slice da i dc, .slice (some ⟨S, off, none⟩) 3 3] 91) = V2 := ⟨_, rfl⟩
      have hb2 : Below w1.heap.size w1 V2 := by rw [← hV2]; exact (Below.refl _ _).alloc (Nat.le_refl _) _
      have B2 := Lib.hid (B1.out.trans (hb2.mono B1.out.size))
      have X1 := Lib.hid (show TwoR V2 w1.heap.size (.slice da i dc) (.slice (some ⟨S, off, none⟩) 3 3) by rw [← hV2]; exact ⟨_, World.alloc_heap_new w1 _⟩)
      have Q2 := Lib.hid (Q1.out.under hb2)
      have D2 := Lib.hid (D1.out.under hb2)
      rw [hV2]
      clear hV2 hb2 D1 Q1 B1
      have hwc : IntKind.i64.wrap (C * K) = C * K := IntWalk.i64_in _ ⟨by omega, by omega⟩
      have hr2 : Calls Try.prog 80 #[.int .i64 (C * K), .int .i64 3, .slice aq i cq, .int .i64 90] V2 fun e w' => ∃ v, e = .returned (.tuple #[v, .int .i64 0]) ∧ Below V2.heap.size V2 w' ∧ RunR w' v i 3 91 (lnDone (C * K) (lp.map (scaleP K)) 90) (fun c t => sentF (lp.map (scaleP K)) (c : Int) (lineS (C * K) (lp.map (scaleP K)) t)) :=
        lrun16_r aq i cq (lp.map (scaleP K)) (C * K) 3 90 HL2.out V2 Q2.out
      have HR2 := Lib.hid hr2
      clear hr2
      go_wp2_with fail
      refine HR2.out.mono ?_
      rintro e w3 ⟨v, rfl, hb3, hr3⟩
      obtain ⟨da3, dc3, S3, off3, rfl, hd3, hs3⟩ := hr3.ex
      have B3 := Lib.hid (B2.out.trans (hb3.mono B2.out.size))
      have D3 := Lib.hid (And.intro (D2.out.under hb3) (show RowZ w3 da3 i dc3 (valsF (lnDone C lp 90) i) from by
        rwa [valsF_congr (G := lnDone C lp 90) (fun k _ => lnDone_scale hK1 lp 90 k)] at hd3))
      have X3 := Lib.hid (X1.out.under hb3)
      clear hb3 hr3 hd3 hs3
      go_upto_region 11 with fail
      obtain ⟨V4, hV4⟩ : ∃ V4, w3.alloc (.cells #[.slice da3 i dc3, .slice (some ⟨S3, off3, none⟩) 3 3] 91) = V4 := ⟨_, rfl⟩
      have hb4 : Below w3.heap.size w3 V4 := by rw [← hV4]; exact (Below.refl _ _).alloc (Nat.le_refl _) _
      have B4 := Lib.hid (B3.out.trans (hb4.mono B3.out.size))
      have X4 := Lib.hid (And.intro (X3.out.under hb4) (show TwoR V4 w3.heap.size (.slice da3 i dc3) (.slice (some ⟨S3, off3, none⟩) 3 3) by rw [← hV4]; exact ⟨_, World.alloc_heap_new w3 _⟩))
      have D4 := Lib.hid (And.intro (D3.out.1.under hb4) (D3.out.2.under hb4))
      rw [hV4]
      clear hV4 hb4 D3 X3 B3
      obtain ⟨q0, q1⟩ := X4.out.1.cells
      obtain ⟨q2, q3⟩ := X4.out.2.cells
      go_wp2_with fail
      refine (rints5_any da i dc _ da3 i dc3 _ true (decide_eq_true rfl) _ D4.out.1 D4.out.2).mono ?_
      rintro e w5 ⟨rfl, m5, rfl⟩
      have B5 := Lib.hid (B4.out.drewN m5)
      go_wp2_with fail
      refine (awake16 _).mono ?_
      rintro e w6 ⟨rfl, hb6⟩
      have HE := Lib.hid (HFIN.out _ (B5.out.trans (hb6.mono B5.out.size)))
      clear hb6
      go_wp2_with fail
      go_ret
      exact ⟨rfl, HE.out⟩
end Go.Proofs.Ytkienpbmoilheaa
