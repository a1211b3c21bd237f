/- The walk of PacketWhole. By the verifier's side. -/
import Derived.Test.YthljhddnfflpjaaCCfZ
import Derived.Test.YthljhddnfflpjaaCPkW
import Derived.Test.YthljhddnfflpjaaCRTrARTrB
namespace Go.Proofs.Ythljhddnfflpjaa
open Go.RowKit
set_option linter.unusedSimpArgs false
set_option linter.unusedVariables false

/-- The sum and the greatest size of the first packets of a list. -/
def SumM (L : List Pk) (k : Nat) (s m : Int) : Prop := s = sumG (fun q => q.s) (L.take k) ∧ (∀ q ∈ L.take k, q.s ≤ m) ∧ 0 ≤ m ∧ m ≤ 1500 ∧ 0 ≤ s ∧ s ≤ 1500 * (k : Int)
theorem SumM.next {L : List Pk} {k : Nat} {s m : Int} {q : Pk} (h : SumM L k s m) (hq : L[k]? = some q) (h1 : 1 ≤ q.s) (h2 : q.s ≤ 1500) : SumM L (k + 1) (s + q.s) (max m q.s) := by
  obtain ⟨a, b, c, d, e, f⟩ := h
  have hk := (List.getElem?_eq_some_iff.1 hq).1
  have ht : L.take (k + 1) = L.take k ++ [q] := by rw [List.take_add_one, hq]; rfl
  refine ⟨?_, fun x hx => ?_, by omega, by omega, by omega, by omega⟩
  · rw [ht, sumG_append, a]; simp [sumG]
  · rw [ht] at hx
    rcases List.mem_append.1 hx with hx | hx
    · have := b x hx; omega
    · rw [List.mem_singleton.1 hx]; omega

set_option maxRecDepth 100000 in
set_option maxHeartbeats 6400000 in
theorem packetWhole_walk (W : World) (a : Option Addr) (n cap : Nat) (hrow : RowAt W a n cap) (y : Int) (hy : In64 y) :
    Calls Try.prog 9 #[.slice a n cap, .int .i64 y] W fun e w' => e = .returned (.bool true) ∧ Below W.heap.size W w' := by
  have HR := Lib.hid hrow
  have HY := Lib.hid hy
  clear hrow hy
  go_enter Try.func9, Try.ntmps9
  go_wp2_with fail
  refine (new_any a n cap _ HR.out).mono ?_
  rintro e ww1 ⟨rfl, hb1, hz1', ra, rn, rc, hs1⟩
  have HB1 := Lib.hid hb1
  have HS1 := Lib.hid hs1
  have hbl : W.heap.size < ww1.heap.size := by omega
  clear hb1 hz1' hs1
  go_wp2_with fail
  refine (traffic14 12 (by omega) 2 20 (by decide) (by decide) _ ra rn rc _ HS1.out).mono ?_
  rintro e ww2 ⟨lp, a1, n1, c1, rfl, hdr, hs2, he2, hr2, hx2⟩
  have HD := Lib.hid hdr
  have HH2 := Lib.hid ((Hld13.start HS1.out).call hs2 he2)
  have HS2 := Lib.hid hs2
  have R2 := Lib.hid hr2
  have HX := Lib.hid (show ∀ x, a1 = some x → ¬ x.block = W.heap.size from fun x hx => by have := hx2 x hx; omega)
  have HVC := Lib.hid (HD.out.vcode (by omega) (by omega) (by omega))
  clear hdr hs2 he2 hr2 hx2
  go_wp2_with fail
  refine (n_any 3 (by omega) (by omega) _ ra rn rc _ HS2.out).mono ?_
  rintro e ww3 ⟨z3, ⟨z0, z1⟩, rfl, hs3, he3⟩
  have HH3 := Lib.hid (HH2.out.call hs3 he3.apart)
  have HS3 := Lib.hid hs3
  have R3 := Lib.hid (pkR_apartZ R2.out he3.apart HX.out)
  have hwz : IntKind.i64.wrap (z3 - 1) = z3 - 1 := IntWalk.i64_in _ ⟨by omega, by omega⟩
  clear hs3 he3 HH2 HS2 R2
  go_wp2_with fail
  refine (mod_any y 300 HY.out (by omega) (by omega) _).mono ?_
  rintro e ww4 ⟨rfl, rfl⟩
  obtain ⟨m, hm⟩ : ∃ m, y % 300 = m := ⟨_, rfl⟩
  rw [hm]
  have hm0 : 0 ≤ m ∧ m < 300 := by omega
  obtain ⟨m0, m1⟩ := hm0
  clear hm
  obtain ⟨v, hv⟩ : ∃ v, wholeA lp (z3 - 1) m = v := ⟨_, rfl⟩
  have HV := Lib.hid hv
  obtain ⟨L, hL⟩ : ∃ L, sel (z3 - 1) lp = L := ⟨_, rfl⟩
  have HL := Lib.hid hL
  have HWV := Lib.hid (show whl m 0 L = v from by rw [← hL, ← hv]; unfold wholeA; rw [if_pos HVC.out])
  have HOK := Lib.hid (show ∀ q ∈ L, 1 ≤ q.s ∧ q.s ≤ 1500 from fun q hq => by
    rw [← hL] at hq
    have := (okP_iff q).1 (sel_bd (fl := z3 - 1) HVC.out q hq)
    omega)
  clear hv hL
  go_wp2_with fail
  refine (whole15 a1 n1 c1 lp (z3 - 1) m v ⟨by omega, by omega⟩ HV.out _ R3.out).mono ?_
  rintro e ww5 ⟨rfl, hb5⟩
  have R5 := Lib.hid (R3.out.under hb5)
  have HH5 := Lib.hid (hldZ_below HH3.out hb5)
  clear hb5 HH3 R3
  go_wp2_with fail
  refine (rselect13 a1 n1 c1 lp (z3 - 1) _ R5.out).mono ?_
  rintro e ww6 ⟨a2, n2, c2, rfl, hb6, hr6, hx6⟩
  rw [HL.out] at hr6
  have R6 := Lib.hid (R5.out.under hb6)
  have HH6 := Lib.hid (hldZ_below HH5.out hb6)
  have S6 := Lib.hid hr6
  have hlen := hr6.len
  have hn60 : n2 ≤ 60 := by
    rw [← hlen, ← HL.out]
    exact Nat.le_trans (sel_le _ lp) (by have := HD.out.len; omega)
  have HLN := Lib.hid hlen
  clear hb6 hr6 hx6 HH5 R5 hlen
  go_wp2_with fail
  go_loopw [31, 10, 11] (fun s31 s10 s11 wx => ∃ (k : Nat) (s mo : Int), s31 = .int .i64 k ∧ s10 = .int .i64 s ∧ s11 = .int .i64 mo ∧ k ≤ n2 ∧ Hid (SumM L k s mo) ∧ Hid (Below ww6.heap.size ww6 wx)) (fun s31 _ _ _ => n2 - (intOf s31).toNat)
  case atStart => exact ⟨0, 0, 0, by go_num, rfl, rfl, Nat.zero_le _, Lib.hid (show SumM L 0 0 0 from ⟨rfl, (fun q hq => by cases hq), by omega, by omega, by omega, by omega⟩), Below.refl _ _⟩
  case round =>
    obtain ⟨k, s, mo, rfl, rfl, rfl, hk, HM, HW⟩ := hrel
    obtain ⟨wk, rfl⟩ : ∃ u : World, u = wr := ⟨_, rfl⟩
    by_cases hlt : k < n2
    · have hlI : (k : Int) < (n2 : Int) := by omega
      obtain ⟨B, off, q, ha, hcs, hq, hbd⟩ := (S6.out.under HW.out).at hlt
      obtain ⟨c0, c1', c2'⟩ := hcs k q hq
      obtain ⟨o1, o2⟩ := HOK.out q (List.mem_of_getElem? hq)
      have HN := Lib.hid (HM.out.next hq o1 o2)
      obtain ⟨f1, f2, mm0, mm1, mm2, mm3⟩ := HM.out
      clear f1 f2
      clear hcs hq hbd
      subst ha
      have hws : IntKind.i64.wrap (s + q.s) = s + q.s := IntWalk.i64_in _ ⟨by omega, by omega⟩
      go_upto_region 10 with fail
      obtain ⟨u, hu⟩ : ∃ u : World, wk.alloc (.cells #[.int .i64 q.f, .int .i64 q.t, .int .i64 q.s] 94) = u := ⟨_, rfl⟩
      obtain ⟨hb, e0, e1, e2⟩ := box_pk hu
      have HU := Lib.hid (HW.out.trans (hb.mono HW.out.size))
      rw [hu]
      clear hu hb c0 c1' c2' e0 e1
      go_quiet (fail)
      go_wp2_with fail
      go_roundw
      case rel => exact ⟨k + 1, s + q.s, max mo q.s, by go_num, rfl, by first | rfl | (congr 1; omega), by omega, HN, HU.out.drewN _⟩
      case measure => first | (simp [intOf]; done) | (simp [intOf]; omega)
    · obtain rfl : k = n2 := by omega
      have hkI : ¬ (k : Int) < (k : Int) := by omega
      have htk : L.take k = L := List.take_of_length_le (by rw [HLN.out]; exact Nat.le_refl _)
      obtain ⟨f1, f2, f3, f4, f5, f6⟩ := HM.out
      rw [htk] at f1 f2
      have HNN := Lib.hid (show ∀ q ∈ L, 0 ≤ q.s from fun q hq => by have := HOK.out q hq; omega)
      have v0 : 0 ≤ v := by rw [← HWV.out]; exact whl_ge L 0 HNN.out
      have v1 : v ≤ m := by rw [← HWV.out]; exact whl_le L 0 m0
      have v2 : v = s ∨ m - mo < v := by
        rw [← HWV.out]
        rcases whl_all (b := m) L 0 with h | ⟨q, hq, h⟩
        · exact .inl (by rw [h, f1]; omega)
        · have := f2 q hq; exact .inr (by omega)
      have hwm : IntKind.i64.wrap (m - mo) = m - mo := IntWalk.i64_in _ ⟨by omega, by omega⟩
      have HHk := Lib.hid (hldZ_below HH6.out HW.out)
      have Rk := Lib.hid (R6.out.under HW.out)
      clear htk f1 f2 HM
      by_cases hvs : v = s
      · have hvb : (v == s) = true := by simp [hvs]
        have HVS := Lib.hid hvs
        clear hvs v2
        go_wp2_with fail
        refine (n_any 9 (by omega) (by omega) _ ra rn rc _ (HHk.out.at HS1.out)).mono ?_
        rintro e ww7 ⟨z7, ⟨z70, z71⟩, rfl, hs7, he7⟩
        have HH7 := Lib.hid (HHk.out.call hs7 he7.apart)
        have R7 := Lib.hid (pkR_apartZ Rk.out he7.apart HX.out)
        have hw7 : IntKind.i64.wrap (m + z7) = m + z7 := IntWalk.i64_in _ ⟨by omega, by omega⟩
        clear hs7 he7
        obtain ⟨v9, hv9⟩ : ∃ v9, wholeA lp (z3 - 1) (m + z7) = v9 := ⟨_, rfl⟩
        have HV9 := Lib.hid hv9
        have hge : v ≤ v9 := by
          rw [← hv9, ← HWV.out]
          unfold wholeA
          rw [if_pos HVC.out, HL.out]
          exact whl_mono (by omega) L 0 HNN.out
        clear hv9
        go_wp2_with fail
        refine (whole15 a1 n1 c1 lp (z3 - 1) (m + z7) v9 ⟨by omega, by omega⟩ HV9.out _ R7.out).mono ?_
        rintro e ww8 ⟨rfl, hb8⟩
        have HH8 := Lib.hid (hldZ_below HH7.out hb8)
        clear hb8
        go_wp2_with fail
        refine (awake15 _).mono ?_
        rintro e ww9 ⟨rfl, hb9⟩
        have HH9 := Lib.hid (hldZ_below HH8.out hb9)
        clear hb9
        go_wp2_with fail
        go_ret
        exact ⟨rfl, HH9.out.ap.below (Nat.le_refl _) HB1.out.size |> fun h => HB1.out.trans h⟩
      · have hvb : (v == s) = false := by simp [hvs]
        have v3 : m - mo < v := by omega
        clear v2
        go_wp2_with fail
        refine (n_any 9 (by omega) (by omega) _ ra rn rc _ (HHk.out.at HS1.out)).mono ?_
        rintro e ww7 ⟨z7, ⟨z70, z71⟩, rfl, hs7, he7⟩
        have HH7 := Lib.hid (HHk.out.call hs7 he7.apart)
        have R7 := Lib.hid (pkR_apartZ Rk.out he7.apart HX.out)
        have hw7 : IntKind.i64.wrap (m + z7) = m + z7 := IntWalk.i64_in _ ⟨by omega, by omega⟩
        clear hs7 he7
        obtain ⟨v9, hv9⟩ : ∃ v9, wholeA lp (z3 - 1) (m + z7) = v9 := ⟨_, rfl⟩
        have HV9 := Lib.hid hv9
        have hge : v ≤ v9 := by
          rw [← hv9, ← HWV.out]
          unfold wholeA
          rw [if_pos HVC.out, HL.out]
          exact whl_mono (by omega) L 0 HNN.out
        clear hv9
        go_wp2_with fail
        refine (whole15 a1 n1 c1 lp (z3 - 1) (m + z7) v9 ⟨by omega, by omega⟩ HV9.out _ R7.out).mono ?_
        rintro e ww8 ⟨rfl, hb8⟩
        have HH8 := Lib.hid (hldZ_below HH7.out hb8)
        clear hb8
        go_wp2_with fail
        refine (awake15 _).mono ?_
        rintro e ww9 ⟨rfl, hb9⟩
        have HH9 := Lib.hid (hldZ_below HH8.out hb9)
        clear hb9
        go_wp2_with fail
        go_ret
        exact ⟨rfl, HH9.out.ap.below (Nat.le_refl _) HB1.out.size |> fun h => HB1.out.trans h⟩
end Go.Proofs.Ythljhddnfflpjaa
