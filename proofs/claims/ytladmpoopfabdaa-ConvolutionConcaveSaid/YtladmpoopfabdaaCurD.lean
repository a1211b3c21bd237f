/- Contracts: slices.Index, slices.Clone at numbers; the search of the least period. By the verifier's side. -/
import Derived.Test.YtladmpoopfabdaaCurC
import Derived.Test.YtladmpoopfabdaaGrow
import Derived.WalkSpells
import Derived.Lib.LazyBuf
import Derived.Deep.LoopGhost
namespace Go.Proofs.Ytladmpoopfabdaa
open Go.RowKit
set_option linter.unusedSimpArgs false

/-- The first index of a number, or -1. -/
def FirstAt (zs : List Int) (v : Int) (w : World) (e : Ending) (w' : World) : Prop :=
  (e = .returned (.int .i64 (-1)) ∧ w = w' ∧ ∀ i, i < zs.length → ¬ zs.getD i 0 = v) ∨
  ∃ i : Nat, e = .returned (.int .i64 i) ∧ w = w' ∧ i < zs.length ∧ zs.getD i 0 = v ∧ ∀ j, j < i → ¬ zs.getD j 0 = v

set_option maxHeartbeats 800000 in
theorem index_any (a : Option Addr) (n cap : Nat) (zs : List Int) (v : Int) (w : World) (h : RowZ w a n cap zs) :
    Calls Try.prog 134 #[.slice a n cap, .int .i64 v] w (FirstAt zs v w) := by
  have H := Lib.hid h
  have hn : n ≤ 140737488355328 := h.sm
  clear h
  go_enter Try.func134, Try.ntmps134
  go_wp2
  go_loop [8] (fun vi => ∃ k : Nat, vi = .int .i64 k ∧ k ≤ n ∧ Hid (∀ i, i < k → ¬ zs.getD i 0 = v)) (fun vi => n - (intOf vi).toNat)
  case atStart => exact ⟨0, rfl, Nat.zero_le _, fun i hi => absurd hi (Nat.not_lt_zero _)⟩
  case round =>
    obtain ⟨k, rfl, hk, hall⟩ := hrel
    by_cases hlt : k < n
    · obtain ⟨x, rfl, hc⟩ := H.out.cell k hlt
      obtain ⟨z, hz⟩ : ∃ z, zs.getD k 0 = z := ⟨_, rfl⟩
      rw [hz] at hc
      have HZ := Lib.hid hz
      clear hz
      by_cases he : v = z
      · have he' : (v == z) = true := by simpa using he
        have HE := Lib.hid he
        clear he
        go_wp2_with fail
        go_ret
        exact .inr ⟨k, rfl, rfl, by rw [H.out.len]; exact hlt, HZ.out.trans HE.out.symm, hall.out⟩
      · have he' : (v == z) = false := by simpa using he
        have HE := Lib.hid he
        clear he
        go_wp2_with fail
        go_round
        case rel =>
          refine ⟨k + 1, by go_num, by omega, fun i hi => ?_⟩
          by_cases hik : i = k
          · subst hik; intro hx; exact HE.out (hx.symm.trans HZ.out)
          · exact hall.out i (by omega)
        case measure => simp [intOf]; omega
    · obtain rfl : k = n := by omega
      go_wp2_with fail
      go_ret
      exact .inl ⟨rfl, rfl, fun i hi => hall.out i (by rw [H.out.len] at hi; exact hi)⟩

/-- A copy in memory of the call's own. -/
def Copied (n : Nat) (zs : List Int) (w : World) (e : Ending) (w' : World) : Prop :=
  ∃ a cap, e = .returned (.slice a n cap) ∧ Below w.heap.size w w' ∧ RowZ w' a n cap zs ∧ ∀ x, a = some x → w.heap.size ≤ x.block

set_option maxHeartbeats 800000 in
theorem clone_any (x : Addr) (n cap : Nat) (zs : List Int) (w : World) (h : RowZ w (some x) n cap zs) (hn : n ≤ 1000000) :
    Calls Try.prog 135 #[.slice (some x) n cap] w (Copied n zs w) := by
  obtain ⟨i0, hi, hz0, hz1, hz2⟩ := info_parts info_int
  have H := Lib.hid h
  clear h
  have hnil := fun (w : World) => Lib.run_eql_slice_nil (P := Try.prog) w 22 3 (some x) n cap 0 0 Try.underlying22
  go_enter Try.func135, Try.ntmps135
  go_wp2_with (at_builtin; refine wpList_append_own _ rfl _ _ 22 rfl w.heap.size 3 i0 (.int .i64 0) 1 8 Try.underlying22 hi hz0 hz1 hz2 rfl (by decide) _ _ _ rfl (World.ownsRow_made w #[] 0 (Nat.le_refl _) (Nat.zero_le _) rfl) x n cap (zs.map (Value.int .i64)) rfl ?cl ?c1 ?c2 ?c3 ?c4 ?c5 ?_)
  case cl => rw [List.length_map, Nat.mul_one]; exact H.out.len
  case c1 =>
    intro j u hj
    rw [List.getElem?_map, Option.map_eq_some_iff] at hj
    obtain ⟨z, hz, rfl⟩ := hj
    have hjn : j < zs.length := (List.getElem?_eq_some_iff.1 hz).1
    obtain ⟨x', hx, hc⟩ := (H.out.alloc _).cell j (by rw [H.out.len] at hjn; exact hjn)
    obtain rfl : x = x' := Option.some.inj hx
    rw [show zs.getD j 0 = z by simp [List.getD, hz]] at hc
    exact hc
  case c2 => intro u hu; simp at hu; obtain ⟨z, _, rfl⟩ := hu; rfl
  case c3 => unfold maxLen; omega
  case c4 => omega
  case c5 => simp
  · intro v' w1 hown' hgrow _
    have HO := Lib.hid hown'
    have HG := Lib.hid hgrow
    clear hown' hgrow
    go_wp2_with fail
    go_ret
    have ho := HO.out
    obtain ⟨a, c, rfl, hr, hx⟩ := rowZ_of_owns ho (by omega) (fun i hi => H.out.bd i (by rw [H.out.len] at hi; exact hi))
    exact ⟨a, c, rfl, ((Below.refl _ _).alloc (Nat.le_refl _) _).grown HG.out (by simp) (fun j hj => by cases hj; exact Nat.le_refl _), hr, hx⟩

theorem at_i (B : Nat) (a : Option Addr) (n cap : Nat) (zs : List Int) (p : Nat) (inc : Int) (ti : Int) (t : Nat) (hti : ti = t) (ht : t ≤ 4194304) (v : Int) (hv : atC zs p inc t = v) (w : World) (h : Clos w B a n cap zs p inc) :
    Calls Try.prog 112 #[.int .i64 ti, .pointer (some ⟨B + 1, 0, none⟩), .pointer (some ⟨B, 0, none⟩), .pointer (some ⟨B + 2, 0, none⟩)] w (Drew (.int .i64 v) w) := by
  subst hti hv; exact at_any B a n cap zs p inc t ht w h

theorem Clos.dr {w w' : World} {B : Nat} {a : Option Addr} {n cap : Nat} {zs : List Int} {p : Nat} {inc : Int} (h : Clos w B a n cap zs p inc) (hd : ∃ m, w' = w.drewN m) : Clos w' B a n cap zs p inc := by
  obtain ⟨m, rfl⟩ := hd; exact h.drewN m
theorem dr_trans {u v w : World} (h : ∃ m, v = u.drewN m) (k : ∃ m, w = v.drewN m) : ∃ m, w = u.drewN m := by
  obtain ⟨m, rfl⟩ := h; obtain ⟨q, rfl⟩ := k; exact ⟨m + q, World.drewN_drewN _ _ _⟩

/-- What the search for the least period hands back. -/
def LeastP (f : Nat → Int) (s P : Nat) (w : World) (e : Ending) (w' : World) : Prop :=
  ∃ r : Nat, 1 ≤ r ∧ r ≤ P ∧ (r < P → GrowsAt f s P r) ∧ (∀ q, 1 ≤ q → q < r → ¬ GrowsAt f s P q) ∧ e = .returned (.int .i64 r) ∧ ∃ m, w' = w.drewN m

set_option maxHeartbeats 1600000 in
theorem leastPeriod_any (B : Nat) (a : Option Addr) (n cap : Nat) (zs : List Int) (P : Nat) (inc : Int) (s : Nat) (hs : s + P = n) (hf : ¬ zs.getD (zs.length - 1) 0 = infV) (w : World) (h : Clos w B a n cap zs P inc) :
    Calls Try.prog 136 #[closV B, .int .i64 s, .int .i64 P] w (LeastP (atC zs P inc) s P w) := by
  have H := Lib.hid h
  have G := Lib.hid h.good
  have HF := Lib.hid hf
  have hP1 := h.good.p1
  have hP2 := h.good.p2
  have hn : s + P ≤ 400 := by have := h.good.few; have := h.row.len; omega
  obtain ⟨F, hFe⟩ : ∃ F, atC zs P inc = F := ⟨_, rfl⟩
  rw [hFe]
  have HE := Lib.hid hFe
  have HBD : Hid (∀ t : Nat, 0 ≤ F t ∧ F t ≤ 1073741824 * ((t : Int) + 1)) := Lib.hid (by rw [← hFe]; exact G.out.bd HF.out)
  clear h hs hf hFe
  go_enter Try.func136, Try.ntmps136
  go_wp2
  go_step3
  go_wp2
  go_step3
  go_wp2
  go_loopg [7] (P - 1) (fun g s7 wx => ∃ q : Nat, s7 = .int .i64 q ∧ q + g = P ∧ 1 ≤ q ∧ Hid (∀ r, 1 ≤ r → r < q → ¬ GrowsAt F s P r) ∧ Hid (∃ m, wx = w.drewN m))
  case atStart => exact ⟨1, rfl, by omega, Nat.le_refl _, fun r h1 h2 => by omega, 0, rfl⟩
  case round =>
    obtain ⟨q, rfl, hq, hq1, hno, hdr⟩ := hrel
    obtain ⟨w0, rfl⟩ : ∃ u : World, u = wr := ⟨_, rfl⟩
    cases gk with
    | zero =>
      have hqP : ¬ (q : Int) < (P : Int) := by omega
      have HQ : Hid (q = P) := Lib.hid (by omega)
      clear hq
      go_wp2_with fail
      try rw [Exit.noGoto_ret]
      go_ret
      exact ⟨P, hP1, Nat.le_refl _, fun hx => absurd hx (Nat.lt_irrefl _), by have := hno.out; rw [HQ.out] at this; exact this, rfl, hdr.out⟩
    | succ g =>
      have hqP : (q : Int) < (P : Int) := by omega
      have hqg : q + 1 + g = P := by omega
      clear hq
      have HQ := Lib.hid hqg
      have hqn : q < P := by omega
      clear hqg
      obtain ⟨v1, hv1⟩ : ∃ v, F (s + q) = v := ⟨_, rfl⟩
      obtain ⟨v2, hv2⟩ : ∃ v, F s = v := ⟨_, rfl⟩
      have b1 := HBD.out (s + q)
      have b2 := HBD.out s
      rw [hv1] at b1
      rw [hv2] at b2
      have b11 := b1.1
      have b12 : v1 ≤ 1073741824 * 1000 := by omega
      have b21 := b2.1
      have b22 : v2 ≤ 1073741824 * 1000 := by omega
      have HV := Lib.hid (And.intro hv1 hv2)
      clear hv1 hv2 b1 b2
      go_wp2_with fail
      refine (at_i B a n cap zs P inc _ (s + q) (by omega) (by omega) v1 (by rw [HE.out]; exact HV.out.1) _ (H.out.dr hdr.out)).mono ?_
      rintro e w1 ⟨rfl, hd1⟩
      have D1 := Lib.hid (dr_trans hdr.out hd1)
      clear hd1
      go_wp2_with fail
      refine (at_i B a n cap zs P inc _ s rfl (by omega) v2 (by rw [HE.out]; exact HV.out.2) _ (H.out.dr D1.out)).mono ?_
      rintro e w2 ⟨rfl, hd2⟩
      have D2 := Lib.hid (dr_trans D1.out hd2)
      clear hd2
      go_wp2_with fail
      go_loopg [9] (P - 1) (fun g s9 wx => ∃ t : Nat, s9 = .int .i64 t ∧ t + g = s + P ∧ s + 1 ≤ t ∧ Hid (∀ u, s + 1 ≤ u → u < t → F (u + q) - F u = F (s + q) - F s) ∧ Hid (∃ m, wx = w.drewN m))
      case atStart => exact ⟨s + 1, by go_num, by omega, Nat.le_refl _, fun u h1 h2 => by omega, D2.out⟩
      case round =>
        obtain ⟨t, rfl, ht, ht1, hok, hdt⟩ := hrel
        obtain ⟨w3, rfl⟩ : ∃ u : World, u = wr := ⟨_, rfl⟩
        cases gk with
        | zero =>
          have htP : ¬ (t : Int) < (s : Int) + (P : Int) := by omega
          have HT : Hid (t = s + P) := Lib.hid (by omega)
          clear ht
          go_wp2_with fail
          try rw [Exit.noGoto_ret]
          go_ret
          exact ⟨q, hq1, by omega, fun _ u h1 h2 => hok.out u h1 (by rw [HT.out]; exact h2), hno.out, rfl, hdt.out⟩
        | succ g2 =>
          have htP : (t : Int) < (s : Int) + (P : Int) := by omega
          have htg : t + 1 + g2 = s + P := by omega
          have htn : t < s + P := by omega
          clear ht
          have HT := Lib.hid htg
          clear htg
          obtain ⟨v3, hv3⟩ : ∃ v, F (t + q) = v := ⟨_, rfl⟩
          obtain ⟨v4, hv4⟩ : ∃ v, F t = v := ⟨_, rfl⟩
          have b3 := HBD.out (t + q)
          have b4 := HBD.out t
          rw [hv3] at b3
          rw [hv4] at b4
          have b31 := b3.1
          have b32 : v3 ≤ 1073741824 * 1000 := by omega
          have b41 := b4.1
          have b42 : v4 ≤ 1073741824 * 1000 := by omega
          have HV3 := Lib.hid (And.intro hv3 hv4)
          clear hv3 hv4 b3 b4
          by_cases hd : v3 - v4 = v1 - v2
          · have hd' : (v3 - v4 != v1 - v2) = false := by simpa using hd
            have HD := Lib.hid hd
            clear hd
            go_wp2_with fail
            refine (at_i B a n cap zs P inc _ (t + q) (by omega) (by omega) v3 (by rw [HE.out]; exact HV3.out.1) _ (H.out.dr hdt.out)).mono ?_
            rintro e w4 ⟨rfl, hd1⟩
            have D4 := Lib.hid (dr_trans hdt.out hd1)
            clear hd1
            go_wp2_with fail
            refine (at_i B a n cap zs P inc _ t rfl (by omega) v4 (by rw [HE.out]; exact HV3.out.2) _ (H.out.dr D4.out)).mono ?_
            rintro e w5 ⟨rfl, hd2⟩
            have D5 := Lib.hid (dr_trans D4.out hd2)
            clear hd2
            go_wp2_with fail
            go_roundg g2
            case rel =>
              refine ⟨t + 1, by go_num, HT.out, by omega, fun u h1 h2 => ?_, D5.out⟩
              by_cases hut : u = t
              · subst hut; rw [HV3.out.1, HV3.out.2, HV.out.1, HV.out.2]; exact HD.out
              · exact hok.out u h1 (by omega)
            all_goals omega
          · have hd' : (v3 - v4 != v1 - v2) = true := by simpa using hd
            have HD := Lib.hid hd
            clear hd
            go_wp2_with fail
            refine (at_i B a n cap zs P inc _ (t + q) (by omega) (by omega) v3 (by rw [HE.out]; exact HV3.out.1) _ (H.out.dr hdt.out)).mono ?_
            rintro e w4 ⟨rfl, hd1⟩
            have D4 := Lib.hid (dr_trans hdt.out hd1)
            clear hd1
            go_wp2_with fail
            refine (at_i B a n cap zs P inc _ t rfl (by omega) v4 (by rw [HE.out]; exact HV3.out.2) _ (H.out.dr D4.out)).mono ?_
            rintro e w5 ⟨rfl, hd2⟩
            have D5 := Lib.hid (dr_trans D4.out hd2)
            clear hd2
            go_wp2_with fail
            go_roundg g
            case rel =>
              refine ⟨q + 1, by go_num, HQ.out, by omega, fun r h1 h2 => ?_, D5.out⟩
              by_cases hrq : r = q
              · subst hrq
                intro hg
                have := hg t ht1 htn
                rw [HV3.out.1, HV3.out.2, HV.out.1, HV.out.2] at this
                exact HD.out this
              · exact hno.out r h1 (by omega)
            all_goals omega

end Go.Proofs.Ytladmpoopfabdaa
