/- The reader's Curve once more: its first value is finite. By the verifier's side. -/
import Derived.Test.YthljhddnfflpjaaHCurSLongKeepC
namespace Go.Proofs.Ythljhddnfflpjaa
open Go.RowKit
set_option linter.unusedSimpArgs false
set_option linter.unusedVariables false

/-- A drawn curve whose first value is finite. -/
def OkCurH (most : Nat) (zs : List Int) (p : Nat) (inc : Int) : Prop := OkCur most zs p inc ∧ ¬ zs.getD 0 0 = infV
theorem okCurH_plain {most : Nat} (hm : most ≤ 9) {zs : List Int} {v : Int} (h : SeqOk zs v) {n : Nat} (hn : zs.length = n) (h1 : 1 ≤ n) (h2 : n ≤ most) {p : Nat} (hp1 : 1 ≤ p) (hp4 : p ≤ 4) (hpn : p ≤ n) {d : Int} (hd0 : 0 ≤ d) (hd8 : d ≤ 8) :
    OkCurH most zs p (zs.getD (n - 1) 0 - zs.getD (n - p) 0 + d) ∧ (¬ zs.getD (zs.length - 1) 0 = infV) ∧ 0 ≤ zs.getD (n - 1) 0 - zs.getD (n - p) 0 + d ∧ zs.getD (n - 1) 0 - zs.getD (n - p) 0 + d ≤ 100 ∧ (∀ i, i < n → 0 ≤ zs.getD i 0 ∧ zs.getD i 0 ≤ 84) := by
  obtain ⟨h3, h4, h5, h6, h7⟩ := okCur_plain hm h hn h1 h2 hp1 hp4 hpn hd0 hd8
  exact ⟨⟨h3, by have := h7 0 h1; unfold infV; omega⟩, h4, h5, h6, h7⟩
theorem okCurH_inf {most : Nat} (hm : most ≤ 9) {zs : List Int} {v : Int} (h : SeqOk zs v) (h2 : zs.length ≤ most) (h1 : 1 ≤ zs.length) : OkCurH most (zs ++ [infV]) 1 0 :=
  ⟨okCur_inf hm h h2, by
    rw [getD_append_lt h1]
    have h3 := h.1.1 0 h1
    have h4 := h.1.2.2.2
    unfold infV; omega⟩
theorem okCurH_long {most : Nat} (hm : most ≤ 9) {zs : List Int} {p : Nat} {inc : Int} (o : OkCurH most zs p inc) (hf : ¬ zs.getD (zs.length - 1) 0 = infV) (h2 : zs.length ≤ most) (hp : p ≤ 4) (hinc : inc ≤ 100) (hb : ∀ i, i < zs.length → 0 ≤ zs.getD i 0 ∧ zs.getD i 0 ≤ 84)
    {more times m : Nat} (hmore : more ≤ 3) (ht : 1 ≤ times) (ht2 : times ≤ 2) (hme : m = zs.length + more + (times - 1) * p) :
    OkCurH most (firsts (atC zs p inc) m) (p * times) (inc * (times : Int)) := by
  refine ⟨okCur_long hm o.1 hf h2 hp hinc hb hmore ht ht2 hme, ?_⟩
  have h3 := o.1.good.p1
  have h4 := o.1.good.p3
  rw [firsts_getD _ _ _ (by omega), atC_lt (by omega)]
  exact o.2
/-- A curve is handed back, in memory of the call's own; of the elder blocks only the reader's has turned. -/
def GivesCurH (most : Nat) (b : Nat) (a : Option Addr) (n cap : Nat) (w : World) (e : Ending) (w' : World) : Prop :=
  ∃ (a' : Option Addr) (n' cap' : Nat) (zs : List Int) (p : Nat) (inc : Int), e = .returned (curV a' n' cap' p inc) ∧ SrcAt w' b a n cap ∧ Apart b w w' ∧ RowZ w' a' n' cap' zs ∧ OkCurH most zs p inc ∧ ∀ x, a' = some x → w.heap.size ≤ x.block

theorem curH_post {most b n cap n' cap' p : Nat} {a a' : Option Addr} {zs : List Int} {inc : Int} {w w9 : World} (HD : Held w b a n cap w9) (hS : SrcAt w b a n cap) (hbl : b < w.heap.size) (hr : RowZ w9 a' n' cap' zs) (hx : ∀ x, a' = some x → w.heap.size < x.block) (ok : OkCurH most zs p inc) :
    GivesCurH most b a n cap w (.returned (curV a' n' cap' p inc)) (((w9.setCell ⟨w.heap.size, 0, none⟩ (.slice a' n' cap')).setCell ⟨w.heap.size, 1, none⟩ (.int .i64 p)).setCell ⟨w.heap.size, 2, none⟩ (.int .i64 inc)) :=
  have H := ((HD.set hbl (p := ⟨w.heap.size, 0, none⟩) (Nat.le_refl _) (.slice a' n' cap')).set hbl (p := ⟨w.heap.size, 1, none⟩) (Nat.le_refl _) (.int .i64 p)).set hbl (p := ⟨w.heap.size, 2, none⟩) (Nat.le_refl _) (.int .i64 inc)
  ⟨a', n', cap', zs, p, inc, rfl, H.at hS, H.ap, ((hr.store (fun x h _ => Nat.ne_of_gt (hx x h)) _ _).store (fun x h _ => Nat.ne_of_gt (hx x h)) _ _).store (fun x h _ => Nat.ne_of_gt (hx x h)) _ _, ok, fun x h => Nat.le_of_lt (hx x h)⟩

theorem curH_post2 {most b n cap N ma mb cap3 p : Nat} {a a3 : Option Addr} {F : Nat → Int} {inc : Int} {w wd : World} (HD : Held w b a n cap wd) (hS : SrcAt w b a n cap) (hbl : b < w.heap.size)
    (hr : RowZ wd a3 (N + (ma + (mb + 1 - 1) * p)) cap3 (firsts F (N + (ma + (mb + 1 - 1) * p)))) (hx : ∀ x, a3 = some x → w.heap.size + 1 < x.block) (ok : OkCurH most (firsts F (N + (ma + (mb + 1 - 1) * p))) (p * (mb + 1)) (inc * ((mb + 1 : Nat) : Int))) :
    GivesCurH most b a n cap w (.returned (curV a3 (N + (ma + mb * p)) cap3 ((p : Int) * ((mb : Int) + 1)) (inc * ((mb : Int) + 1))))
      ((((((wd.setCell ⟨w.heap.size + 1, 0, none⟩ (.slice a3 (N + (ma + mb * p)) cap3)).setCell ⟨w.heap.size + 1, 1, none⟩ (.int .i64 ((p : Int) * ((mb : Int) + 1)))).setCell ⟨w.heap.size + 1, 2, none⟩ (.int .i64 (inc * ((mb : Int) + 1)))).setCell
        ⟨w.heap.size, 0, none⟩ (.slice a3 (N + (ma + mb * p)) cap3)).setCell ⟨w.heap.size, 1, none⟩ (.int .i64 ((p : Int) * ((mb : Int) + 1)))).setCell ⟨w.heap.size, 2, none⟩ (.int .i64 (inc * ((mb : Int) + 1)))) := by
  rw [Nat.add_sub_cancel] at hr ok
  have e1 : (p : Int) * ((mb : Int) + 1) = ((p * (mb + 1) : Nat) : Int) := by simp
  have e2 : inc * ((mb : Int) + 1) = inc * ((mb + 1 : Nat) : Int) := by simp
  rw [e1, e2]
  have hne : ∀ x, a3 = some x → ¬ x.block = w.heap.size + 1 := fun x h => Nat.ne_of_gt (hx x h)
  exact curH_post (((HD.set hbl (p := ⟨w.heap.size + 1, 0, none⟩) (Nat.le_succ _) _).set hbl (p := ⟨w.heap.size + 1, 1, none⟩) (Nat.le_succ _) _).set hbl (p := ⟨w.heap.size + 1, 2, none⟩) (Nat.le_succ _) _) hS hbl
    (((hr.store (fun x h _ => hne x h) _ _).store (fun x h _ => hne x h) _ _).store (fun x h _ => hne x h) _ _) (fun x h => Nat.lt_trans (Nat.lt_succ_self _) (hx x h)) ok

set_option maxRecDepth 100000 in
set_option maxHeartbeats 6400000 in
theorem curveH_any (most : Nat) (hm1 : 1 ≤ most) (hm9 : most ≤ 9) (b : Nat) (a : Option Addr) (n cap : Nat) (w : World) (h : SrcAt w b a n cap) :
    Calls Try.prog 15 #[.pointer (some ⟨b, 0, none⟩), .int .i64 most] w (GivesCurH most b a n cap w) := by
  obtain ⟨i0, hi, hz0, hz1, hz2⟩ := info_parts info_int
  have HS := Lib.hid h
  have hbl := h.lt
  have HD0 := Lib.hid ((Held.start h).alloc (.cells #[.slice none 0 0, .int .i64 0, .int .i64 0] 24))
  have KR0 := Lib.hid (Cur3.new w (.slice none 0 0) (.int .i64 0) (.int .i64 0) 24)
  have hbR : ¬ w.heap.size = b := by omega
  clear h
  go_enter Try.func15, Try.ntmps15
  go_wp2_with fail
  refine (n_any most (by omega) (by omega) b a n cap _ (HD0.out.at HS.out)).mono ?_
  rintro e w1 ⟨r1, hr1, rfl, hs, he⟩
  have HD1 := Lib.hid (HD0.out.call hs he.apart)
  have KR1 := Lib.hid (KR0.out.apart he.apart hbR)
  have z1 : w1.heap.size = w.heap.size + 1 := by rw [he.size]; simp
  have Z1 := Lib.hid z1
  clear hs he z1
  obtain ⟨N, hN⟩ : ∃ N : Nat, 1 + r1 = (N : Int) := ⟨(1 + r1).toNat, by omega⟩
  have hN1 : 1 ≤ N := by omega
  have hN2 : N ≤ most := by omega
  have hr0 := hr1.1
  have hr2 := hr1.2
  clear hr1
  go_upto_region 2 with fail
  clear hN hr0 hr2
  go_cut [6] (fun s6 wx => ∃ p : Nat, s6 = .pointer (some ⟨w.heap.size + 1, 0, none⟩) ∧ 1 ≤ p ∧ p ≤ 4 ∧ p ≤ N ∧ wx.heap.size = w.heap.size + 1 + 1 ∧ Hid (Held w b a n cap wx) ∧ Hid (Cur3 wx w.heap.size (.slice none 0 0) (.int .i64 0) (.int .i64 0)) ∧ Hid (Cur3 wx (w.heap.size + 1) (.slice none 0 0) (.int .i64 p) (.int .i64 0)))
  case first =>
    by_cases h4 : N ≤ 4
    · have h4' : (N : Int) ≤ 4 := by omega
      go_wp2_with fail
      refine (n_any (N : Int) (by omega) (by omega) b a n cap _ (HD1.out.at HS.out)).mono ?_
      rintro e w2 ⟨r2, hr2, rfl, hs, he⟩
      obtain ⟨p, hp⟩ : ∃ p : Nat, 1 + r2 = (p : Int) := ⟨(1 + r2).toNat, by omega⟩
      have p1 : 1 ≤ p := by omega
      have p2 : p ≤ N := by omega
      have q1 := hr2.1
      have q2 := hr2.2
      have z2 : w2.heap.size = w.heap.size + 1 := by rw [he.size]; exact Z1.out
      have HD2 := Lib.hid (HD1.out.call hs he.apart)
      have KR2 := Lib.hid (KR1.out.apart he.apart hbR)
      have KF2 := Lib.hid (Cur3.new w2 (.slice none 0 0) (.int .i64 p) (.int .i64 0) 24)
      have Z2 := Lib.hid z2
      clear hs he hr2 z2
      go_wp2_with fail
      go_meet
      exact ⟨p, by rw [Z2.out], p1, by omega, p2, by simp [Z2.out], HD2.out.alloc _, KR2.out.alloc _, by have := KF2.out; rwa [Z2.out] at this⟩
    · have h4' : (4 : Int) < (N : Int) := by omega
      go_wp2_with fail
      refine (n_any 4 (by omega) (by omega) b a n cap _ (HD1.out.at HS.out)).mono ?_
      rintro e w2 ⟨r2, hr2, rfl, hs, he⟩
      obtain ⟨p, hp⟩ : ∃ p : Nat, 1 + r2 = (p : Int) := ⟨(1 + r2).toNat, by omega⟩
      have p1 : 1 ≤ p := by omega
      have p2 : p ≤ 4 := by omega
      have q1 := hr2.1
      have q2 := hr2.2
      have z2 : w2.heap.size = w.heap.size + 1 := by rw [he.size]; exact Z1.out
      have HD2 := Lib.hid (HD1.out.call hs he.apart)
      have KR2 := Lib.hid (KR1.out.apart he.apart hbR)
      have KF2 := Lib.hid (Cur3.new w2 (.slice none 0 0) (.int .i64 p) (.int .i64 0) 24)
      have Z2 := Lib.hid z2
      clear hs he hr2 z2
      go_wp2_with fail
      go_meet
      exact ⟨p, by rw [Z2.out], p1, p2, by omega, by simp [Z2.out], HD2.out.alloc _, KR2.out.alloc _, by have := KF2.out; rwa [Z2.out] at this⟩
  case rest =>
    obtain ⟨p, rfl, hp1, hp4, hpN, hz, HD, KR, KF⟩ := hcut
    obtain ⟨w3, rfl⟩ : ∃ u : World, u = wc := ⟨_, rfl⟩
    have Z3 := Lib.hid hz
    have hlb : ¬ w3.heap.size = b := by omega
    clear hz
    go_wp2_with fail
    refine (pick_of (fun z => 0 ≤ z ∧ z ≤ 3) (fun z hz => ⟨by omega, by omega⟩) w3.heap.size 4 4 (by omega) (by omega) b hlb a n cap _ ((HD.out.alloc _).at HS.out) (list_newP _ w3 [0, 0, 0, 3] 3 (by decide))).mono ?_
    rintro e w4 ⟨v0, hv0, rfl, hs, he⟩
    have HD4 := Lib.hid ((HD.out.alloc (.cells #[.int .i64 0, .int .i64 0, .int .i64 0, .int .i64 3] 3)).call hs he)
    have KR4 := Lib.hid ((KR.out.alloc (.cells #[.int .i64 0, .int .i64 0, .int .i64 0, .int .i64 3] 3)).apart he hbR)
    have KF4 := Lib.hid ((KF.out.alloc (.cells #[.int .i64 0, .int .i64 0, .int .i64 0, .int .i64 3] 3)).apart he (by omega))
    have SQ := Lib.hid (SeqOk.nil hv0.1 hv0.2)
    clear hs he hv0
    go_wp2_with fail
    go_loopw [7, 8] (fun s7 s8 wx => ∃ (k : Nat) (zs : List Int) (v : Int) (sv : Value), s8 = .int .i64 k ∧ s7 = .int .i64 v ∧ k ≤ N ∧ Hid (zs.length = k) ∧ Hid (SeqOk zs v) ∧ Hid (Held w b a n cap wx) ∧ Hid (Cur3 wx w.heap.size (.slice none 0 0) (.int .i64 0) (.int .i64 0)) ∧
      Hid (Cur3 wx (w.heap.size + 1) sv (.int .i64 p) (.int .i64 0)) ∧ Hid (wx.ownsRow (w.heap.size + 1 + 1) 3 1 sv k (zs.map (Value.int .i64)))) (fun _ s8 _ => N - (intOf s8).toNat)
    case atStart => exact ⟨0, [], v0, .slice none 0 0, rfl, rfl, Nat.zero_le _, rfl, SQ, HD4, KR4, KF4, World.ownsRow_nil _ _ _ _⟩
    case round =>
      obtain ⟨k, zs, v, sv, rfl, rfl, hk, HL, HQ, HD5, KR5, KF5, HO⟩ := hrel
      obtain ⟨w5, rfl⟩ : ∃ u : World, u = wr := ⟨_, rfl⟩
      by_cases hlt : k < N
      · obtain ⟨c0, c1, c2, f0, f1, f2⟩ := KF5.out
        have hv0 : 0 ≤ v := HQ.out.1.2.2.1
        have hv1 : v ≤ 3 + 9 * 9 := by have := HQ.out.1.2.2.2; have := HL.out; omega
        go_wp2_with (at_builtin; refine wpList_append_own _ rfl _ _ 22 rfl (w.heap.size + 1 + 1) 3 i0 (.int .i64 0) 1 8 Try.underlying22 hi hz0 hz1 hz2 rfl (by decide) _ _ _ rfl (HO.out.alloc _) ⟨w5.heap.size, 0, none⟩ 1 1 [.int .i64 v] rfl rfl ?c1 ?c2 ?c3 ?c4 ?c5 ?_)
        case c1 =>
          intro j u hj
          match j, hj with
          | 0, hj => simp at hj; subst hj; simp [Addr.add]
        case c2 => intro u hu; simp at hu; subst hu; rfl
        case c3 => unfold maxLen; omega
        case c4 => omega
        case c5 => have := KF5.out.lt; simp; omega
        · intro v' w6 hown' hgrow _
          obtain ⟨g6, cap6, rfl, hg6, hg6'⟩ := hown'.form (Nat.succ_pos _)
          have hrow : ∀ j, sv.ownBlock = some j → w.heap.size + 1 + 1 ≤ j := fun j hj => (HO.out.lt j hj).1
          have HD6 := Lib.hid ((HD5.out.alloc (.cells #[.int .i64 v] 3)).grown hbl hgrow (fun j hj => by have := hrow j hj; omega))
          have KR6 := Lib.hid ((KR5.out.alloc (.cells #[.int .i64 v] 3)).grown hgrow (fun j hj => by have := hrow j hj; omega))
          have KF6 := Lib.hid ((KF5.out.alloc (.cells #[.int .i64 v] 3)).grown hgrow (fun j hj => by have := hrow j hj; omega))
          have HO6 := Lib.hid hown'
          clear hown' hgrow hrow c0 c1 c2 f0 f1 f2
          obtain ⟨c0, c1, c2, f0, f1, f2⟩ := KF6.out
          have h6b : ¬ w6.heap.size = b := by have := HD6.out.lt; omega
          go_wp2_with fail
          refine (pick_of (fun z => 0 ≤ z ∧ z ≤ 9) (fun z hz => ⟨by omega, by omega⟩) w6.heap.size 6 6 (by omega) (by omega) b h6b a n cap _ (((HD6.out.set hbl (by show w.heap.size ≤ w.heap.size + 1; omega) _).alloc _).at HS.out) ?pl).mono ?_
          case pl => exact fun i hi => by have := list_newP (fun z => 0 ≤ z ∧ z ≤ 9) (w6.setCell ⟨w.heap.size + 1, 0, none⟩ (.slice (some ⟨g6, 0, none⟩) (k + 1) cap6)) [0, 0, 1, 2, 5, 9] 3 (by decide) i hi; rwa [show (w6.setCell ⟨w.heap.size + 1, 0, none⟩ (.slice (some ⟨g6, 0, none⟩) (k + 1) cap6)).heap.size = w6.heap.size by simp [World.setCell]] at this
          rintro e w7 ⟨z, hz, rfl, hs, he⟩
          have HD7 := Lib.hid (((HD6.out.set hbl (by show w.heap.size ≤ w.heap.size + 1; omega) _).alloc _).call hs he)
          have KR7 := Lib.hid (((KR6.out.other (by omega) _ _).alloc _).apart he hbR)
          have KF7 := Lib.hid (((KF6.out.set0 _).alloc _).apart he (by omega))
          have HO7 := Lib.hid (owns_apart ((owns_set HO6.out (p := ⟨w.heap.size + 1, 0, none⟩) (Nat.lt_succ_self _) (.slice (some ⟨g6, 0, none⟩) (k + 1) cap6)).alloc (.cells #[.int .i64 0, .int .i64 0, .int .i64 1, .int .i64 2, .int .i64 5, .int .i64 9] 3)) he (by omega))
          have hz0' := hz.1
          have hz9 := hz.2
          clear hs he hz c0 c1 c2 f0 f1 f2
          go_wp2_with fail
          go_roundw
          case rel =>
            refine ⟨k + 1, zs ++ [v], v + z, _, by go_num, rfl, by omega, (show (zs ++ [v]).length = k + 1 from by simp [HL.out]), HQ.out.snoc hz0' hz9, HD7, KR7, KF7, ?_⟩
            rw [List.map_append]; exact HO7
          case measure => simp [intOf]; omega
      · obtain rfl : N = k := by omega
        obtain ⟨g, cap', rfl, hg, hg'⟩ := HO.out.form (by omega)
        have HM := Lib.hid (Mk.mk HD5.out ⟨_, KF5.out⟩ KR5.out HO.out)
        obtain ⟨j, hj⟩ : ∃ j, N = j + 1 := ⟨N - 1, by omega⟩
        obtain ⟨i, hi2⟩ : ∃ i, N = i + p := ⟨N - p, by omega⟩
        obtain ⟨l, hl⟩ : ∃ l, zs.getD j 0 = l := ⟨_, rfl⟩
        obtain ⟨m, hm⟩ : ∃ m, zs.getD i 0 = m := ⟨_, rfl⟩
        have hjN : j < N := by omega
        have hiN : i < N := by omega
        have HP := Lib.hid (fun (d : Int) (d0 : 0 ≤ d) (d8 : d ≤ 8) => okCurH_plain hm9 HQ.out HL.out hN1 hN2 hp1 hp4 hpN d0 d8)
        have bl := (HP.out 0 (by omega) (by omega)).2.2.2.2 j hjN
        have bm := (HP.out 0 (by omega) (by omega)).2.2.2.2 i hiN
        rw [hl] at bl
        rw [hm] at bm
        have bl0 := bl.1
        have bl1 := bl.2
        have bm0 := bm.1
        have bm1 := bm.2
        have q1 : IntKind.i64.wrap ((N : Int) - 1) = (j : Int) := by rw [show (N : Int) - 1 = (j : Int) by omega]; exact IntWalk.i64_in _ ⟨by omega, by omega⟩
        have q2 : IntKind.i64.wrap ((N : Int) - (p : Int)) = (i : Int) := by rw [show (N : Int) - (p : Int) = (i : Int) by omega]; exact IntWalk.i64_in _ ⟨by omega, by omega⟩
        have q3 : (0 : Int) ≤ (j : Int) := by omega
        have q4 : (0 : Int) ≤ (i : Int) := by omega
        have q5 : (j : Int) < (N : Int) := by omega
        have q6 : (i : Int) < (N : Int) := by omega
        have q7 : IntKind.i64.wrap (l - m) = l - m := IntWalk.i64_in _ ⟨by omega, by omega⟩
        have HE := Lib.hid (And.intro hj (And.intro hi2 (And.intro hl hm)))
        clear hj hi2 hl hm bl bm KR5 KF5 HO HD5
        have hw5b : w5.heap.size ≠ b := by have := HM.out.held.lt; omega
        have hs9 := HM.out.s9 HL.out hjN hiN HE.out.2.2.1 HE.out.2.2.2
        go_wp2_with fail
        go_cut [] (fun wx => ∃ z : Int, 0 ≤ z ∧ z ≤ 8 ∧ Hid (Mk w b a n cap g N cap' p zs wx) ∧ wx.cell? ⟨w.heap.size + 1, 2, none⟩ = some (.int .i64 (l - m + z)))
        case first =>
          go_region_held3 (fun w' => S9 w b a n cap g N cap' p j i l m zs w')
            (first | exact (S9.mk (by assumption)).drew.s9 HL.out hjN hiN HE.out.2.2.1 HE.out.2.2.2 | exact ((S9.mk (by assumption)).alloc _).s9 HL.out hjN hiN HE.out.2.2.1 HE.out.2.2.2 | exact (S9.mk (u := World.drew _) (by assumption)).alloc _ |>.s9 HL.out hjN hiN HE.out.2.2.1 HE.out.2.2.2 | exact ((S9.mk (by assumption)).call hbl hs he).s9 HL.out hjN hiN HE.out.2.2.1 HE.out.2.2.2 | exact ((S9.mk (by assumption)).set2 hbl _).s9 HL.out hjN hiN HE.out.2.2.1 HE.out.2.2.2)
            (first | (go_at_call 18; refine (pick_of (fun z => 0 ≤ z ∧ z ≤ 8) (fun z hz => ⟨by omega, by omega⟩) w5.heap.size 6 6 (by omega) (by omega) b hw5b a n cap _ ((S9.mk (by assumption)).held.at HS.out) ?_).mono ?_; (focus (exact list_newP (fun z => 0 ≤ z ∧ z ≤ 8) w5 [0, 0, 1, 3, 4, 8] _ (by decide))); rintro e w7 ⟨z, hz, rfl, hs, he⟩; have hz0 := hz.1; have hz8 := hz.2; have hzw : IntKind.i64.wrap (l - m + z) = l - m + z := IntWalk.i64_in _ ⟨by omega, by omega⟩; obtain ⟨y2, hy2⟩ := ((S9.mk (by assumption)).call hbl hs he).box; have e2 := hy2.c2; have e3 := hy2.f2; clear hy2))
          all_goals go_wp2_with fail
          all_goals go_meet
          all_goals exact ⟨z, hz0, hz8, S9.mk (by assumption), World.cell?_setCell_same _ _ _ e2⟩
        case rest =>
          obtain ⟨z, zz0, zz8, HM2, hc2⟩ := hcut
          obtain ⟨w8, rfl⟩ : ∃ u : World, u = wc := ⟨_, rfl⟩
          obtain ⟨x2, hx2⟩ := HM2.out.box
          obtain rfl : x2 = .int .i64 (l - m + z) := Option.some.inj (hx2.c2.symm.trans hc2)
          obtain ⟨P1, P2, P3, P4, P5⟩ := HP.out z zz0 zz8
          have el : zs.getD (N - 1) 0 = l := by rw [HE.out.1, Nat.add_sub_cancel]; exact HE.out.2.2.1
          have em : zs.getD (N - p) 0 = m := by rw [HE.out.2.1, Nat.add_sub_cancel]; exact HE.out.2.2.2
          rw [el, em] at P1 P3 P4
          obtain ⟨inc, hinc⟩ : ∃ inc, l - m + z = inc := ⟨_, rfl⟩
          rw [hinc] at P1 P3 P4 hx2
          have KF8 := Lib.hid hx2
          have OK8 := Lib.hid (And.intro P1 (And.intro P2 P5))
          have hlt8 := HM2.out.held.lt
          clear hc2 hx2 P1 P2 P5 el em hinc hs9 q1 q2 q3 q4 q5 q6 q7 HE HP
          go_wp2_with fail
          refine (n_any 8 (by omega) (by omega) b a n cap _ (HM2.out.held.at HS.out)).mono ?_
          rintro e w9 ⟨r, hr, rfl, hs, he⟩
          have HM9 := Lib.hid (HM2.out.call hbl hs he.apart)
          have KF9 := Lib.hid (KF8.out.apart he.apart (by omega))
          have hr0 := hr.1
          have hr8 := hr.2
          clear hs he hr
          obtain ⟨a9, cap9, hv9, R9, X9⟩ := rowZ_of_owns HM9.out.row (by omega) (fun i hi => by have := (OK8.out.2.2 i (by rw [HL.out] at hi; exact hi)); exact ⟨by omega, by omega⟩)
          obtain ⟨rfl, rfl⟩ : some ⟨g, 0, none⟩ = a9 ∧ cap' = cap9 := by cases hv9; exact ⟨rfl, rfl⟩
          have HR9 := Lib.hid R9
          have hgb : w.heap.size + 1 + 1 ≤ g := X9 _ rfl
          clear hv9 R9 X9
          by_cases h0 : r = 0
          · have h0' : (r == 0) = true := by simpa using h0
            clear h0 hr0 hr8
            obtain ⟨c0, c1, c2, f0, f1, f2⟩ := KF9.out
            go_wp2_with (at_builtin; refine wpList_append_own _ rfl _ _ 22 rfl (w.heap.size + 1 + 1) 3 i0 (.int .i64 0) 1 8 Try.underlying22 hi hz0 hz1 hz2 rfl (by decide) _ _ _ rfl (HM9.out.row.alloc _) ⟨w9.heap.size, 0, none⟩ 1 1 [.int .i64 4611686018427387904] rfl rfl ?k1 ?k2 ?k3 ?k4 ?k5 ?_)
            case k1 =>
              intro j u hj
              match j, hj with
              | 0, hj => simp at hj; subst hj; simp [Addr.add]
            case k2 => intro u hu; simp at hu; subst hu; rfl
            case k3 => unfold maxLen; omega
            case k4 => omega
            case k5 => have := KF9.out.lt; simp; omega
            · intro v' w6 hown' hgrow _
              obtain ⟨g6, cap6, rfl, hg6, hg6'⟩ := hown'.form (Nat.succ_pos _)
              have hrow : ∀ j, (Value.slice (some ⟨g, 0, none⟩) N cap').ownBlock = some j → w.heap.size + 1 + 1 ≤ j := fun j hj => by cases hj; exact hgb
              have HD6 := Lib.hid ((HM9.out.held.alloc (.cells #[.int .i64 4611686018427387904] 3)).grown hbl hgrow (fun j hj => by have := hrow j hj; omega))
              have KR6 := Lib.hid ((HM9.out.res.alloc (.cells #[.int .i64 4611686018427387904] 3)).grown hgrow (fun j hj => by have := hrow j hj; omega))
              have KF6 := Lib.hid ((KF9.out.alloc (.cells #[.int .i64 4611686018427387904] 3)).grown hgrow (fun j hj => by have := hrow j hj; omega))
              have HO6 : Hid (w6.ownsRow (w.heap.size + 1 + 1) 3 1 (.slice (some ⟨g6, 0, none⟩) (N + 1) cap6) (N + 1) ((zs ++ [infV]).map (Value.int .i64))) := Lib.hid (by rw [List.map_append]; exact hown')
              clear hown' hgrow hrow c0 c1 c2 f0 f1 f2
              have OKI := Lib.hid (okCurH_inf hm9 HQ.out (by rw [HL.out]; exact hN2) (by rw [HL.out]; exact hN1))
              obtain ⟨a10, cap10, hv10, R10, X10⟩ := rowZ_of_owns HO6.out (by omega) (fun i hi => by
                rcases OKI.out.1.good.val i hi with h | h
                · exact ⟨by omega, by omega⟩
                · rw [h]; exact ⟨by decide, by decide⟩)
              obtain ⟨rfl, rfl⟩ : some ⟨g6, 0, none⟩ = a10 ∧ cap6 = cap10 := by cases hv10; exact ⟨rfl, rfl⟩
              have HR10 := Lib.hid R10
              have X6 : w.heap.size + 1 + 1 ≤ g6 := X10 _ rfl
              clear hv10 R10 X10
              obtain ⟨c0, c1, c2, f0, f1, f2⟩ := KF6.out
              obtain ⟨d0, d1, d2, e0, e1, e2⟩ := KR6.out
              have hne : ¬ w.heap.size = w.heap.size + 1 := by omega
              go_wp2_with fail
              obtain ⟨d0', d1', d2', e0', e1', e2'⟩ := (KR6.out.other hne 0 (.slice (some ⟨g6, 0, none⟩) (N + 1) cap6)).other hne 1 (.int .i64 1) |>.other hne 2 (.int .i64 0)
              exact bodyPost_ret (v := curV (some ⟨g6, 0, none⟩) (N + 1) cap6 1 0) (by simp [results, Try.results15, go_sem, d0', d1', d2']) rfl
                (curH_post (((HD6.out.set hbl (p := ⟨w.heap.size + 1, 0, none⟩) (Nat.le_succ _) _).set hbl (p := ⟨w.heap.size + 1, 1, none⟩) (Nat.le_succ _) _).set hbl (p := ⟨w.heap.size + 1, 2, none⟩) (Nat.le_succ _) _) HS.out hbl
                  (((HR10.out.store (fun x h _ => by cases h; show ¬ g6 = _; omega) _ _).store (fun x h _ => by cases h; show ¬ g6 = _; omega) _ _).store (fun x h _ => by cases h; show ¬ g6 = _; omega) _ _) (fun x hx => by cases hx; show w.heap.size < g6; omega) OKI.out)
          · have h0' : (r == 0) = false := by simpa using h0
            by_cases h1 : r = 1
            · have h1' : (r == 1) = true := by simpa using h1
              clear h0 h1 hr0 hr8
              obtain ⟨c0, c1, c2, f0, f1, f2⟩ := KF9.out
              go_wp2_with fail
              go_region_with (first
                | (go_at_call 17; refine (n_any 4 (by omega) (by omega) b a n cap _ (HM9.out.drew.held.at HS.out)).mono ?_; rintro e wa ⟨za, hza, rfl, hsa, hea⟩; obtain ⟨ma, rfl⟩ := Int.eq_ofNat_of_zero_le hza.1; have hma : ma ≤ 3 := (by have := hza.2; omega); have KA := Lib.hid (HM9.out.drew.call hbl hsa hea.apart); have KFA := Lib.hid (KF9.out.drew'.apart hea.apart (show ¬ w.heap.size + 1 = b by omega)); have KRA := Lib.hid (HR9.out.elseD hea (show ¬ g = b by omega)); clear hza hea; obtain ⟨i0', i1', i2', j0', j1', j2'⟩ := KFA.out)
                | (go_at_call 17; refine (n_any 2 (by omega) (by omega) b a n cap _ hsa).mono ?_; rintro e wb ⟨zb, hzb, rfl, hsb, heb⟩; obtain ⟨mb, rfl⟩ := Int.eq_ofNat_of_zero_le hzb.1; have hmb : mb ≤ 1 := (by have := hzb.2; omega); have KB := Lib.hid (KA.out.call hbl hsb heb.apart); have KFB := Lib.hid (KFA.out.apart heb.apart (show ¬ w.heap.size + 1 = b by omega)); have KRB := Lib.hid (KRA.out.else heb (show ¬ g = b by omega)); clear hzb heb; have hmw : IntKind.i64.wrap (1 + (mb : Int)) = 1 + (mb : Int) := IntWalk.i64_in _ ⟨by omega, by omega⟩; obtain ⟨k0', k1', k2', l0', l1', l2'⟩ := KFB.out)
                | (go_at_call 35; refine (longer_i (some ⟨g, 0, none⟩) N cap' zs p inc OK8.out.1.1.good OK8.out.2.1 _ _ ma (mb + 1) (ma + (mb + 1 - 1) * p) rfl (by omega) rfl (by omega) (by omega) (by omega) (small_mul hmb hma hp4 hN2 hm9) _ KRB.out).mono ?_; rintro e wd ⟨a3, cap3, rfl, hb3, hr3, hx3⟩; have KFD := Lib.hid (KFB.out.below hb3); have KRD := Lib.hid (KB.out.res.below hb3); have KHD := Lib.hid (KB.out.held.below hb3); have HRD := Lib.hid hr3; have HXD := Lib.hid (fun y hy => Nat.lt_of_lt_of_le KFB.out.lt (hx3 y hy)); clear hb3 hr3 hx3; obtain ⟨m0', m1', m2', n0', n1', n2'⟩ := KFD.out; obtain ⟨o0', o1', o2', p0', p1', p2'⟩ := KRD.out))
              all_goals go_wp2_with fail
              all_goals
                have hne : ¬ w.heap.size = w.heap.size + 1 := by omega
                obtain ⟨d0', d1', d2', e0', e1', e2'⟩ := ((KRD.out.other hne 0 (.slice a3 (N + (ma + mb * p)) cap3)).other hne 1 (.int .i64 ((p : Int) * ((mb : Int) + 1)))).other hne 2 (.int .i64 (inc * ((mb : Int) + 1)))
                exact bodyPost_ret (v := curV a3 (N + (ma + mb * p)) cap3 ((p : Int) * ((mb : Int) + 1)) (inc * ((mb : Int) + 1))) (by simp [results, Try.results15, go_sem, d0', d1', d2']) rfl
                  (curH_post2 KHD.out HS.out hbl HRD.out HXD.out (okCurH_long hm9 OK8.out.1 OK8.out.2.1 (by rw [HL.out]; exact hN2) hp4 P4 (fun i hi => OK8.out.2.2 i (by rw [HL.out] at hi; exact hi)) hma (Nat.succ_pos mb) (by omega) (by rw [HL.out]; omega)))
            · have h1' : (r == 1) = false := by simpa using h1
              clear h0 h1
              obtain ⟨c0, c1, c2, f0, f1, f2⟩ := KF9.out
              obtain ⟨d0, d1, d2, e0, e1, e2⟩ := HM9.out.res
              go_wp2_with fail
              exact bodyPost_ret (v := curV (some ⟨g, 0, none⟩) N cap' p inc) (by simp [results, Try.results15, go_sem, d0, d1, d2]) rfl
                (curH_post HM9.out.held HS.out hbl HR9.out (fun x hx => by cases hx; show w.heap.size < g; omega) OK8.out.1)

end Go.Proofs.Ythljhddnfflpjaa
