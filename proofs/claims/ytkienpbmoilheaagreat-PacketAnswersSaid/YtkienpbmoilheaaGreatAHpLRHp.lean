/- The document's Lower, and its other way to the hop curve. By the verifier's side. -/
import Derived.Test.YtkienpbmoilheaaGreatAR5D
import Derived.Test.YtkienpbmoilheaaGreatARRai
import Derived.Test.YtkienpbmoilheaaGreatARefPRefO
import Derived.Test.YtkienpbmoilheaaGreatACurMToDecM
import Derived.Test.YtkienpbmoilheaaGreatAConER
import Derived.Test.YtkienpbmoilheaaGreatAHp1PkW
namespace Go.Proofs.YtkienpbmoilheaaGreat
open Go.RowKit
set_option linter.unusedSimpArgs false
set_option linter.unusedVariables false

theorem fin_is {zs : List Int} {p : Nat} {inc : Int} (g : Good zs p inc) (b : Bool) (h : b = true ↔ ¬ InfC zs) : finB zs p inc = b := by
  unfold finB
  rw [(okC_iff zs p inc).2 g]
  unfold InfC at h
  cases b with
  | true => simpa using h.1 rfl
  | false => simp at h ⊢; exact h

end Go.Proofs.YtkienpbmoilheaaGreat

namespace Go.Proofs.YtkienpbmoilheaaGreat
open Go.RowKit
set_option linter.unusedSimpArgs false
set_option linter.unusedVariables false

set_option maxRecDepth 100000 in
set_option maxHeartbeats 6400000 in
theorem rhop15 (a : Option Addr) (n cap : Nat) (zs : List Int) (p : Nat) (inc : Int) (g : Good zs p inc) (m : Int) (hm : 1 ≤ m ∧ m ≤ 1500) (w : World) (h : RowZ w a n cap zs) :
    Calls Tryz.prog 14 #[curV a n cap p inc, .int .i64 m] w (GivesE (eHop (m - 1) zs p inc) w) := by
  obtain ⟨ii0, ihi, ihz0, ihz1, ihz2⟩ := info_parts info_int
  obtain ⟨W, hW⟩ : ∃ W, (w.alloc (.cells #[.slice a n cap, .int .i64 p, .int .i64 inc] 24)).alloc (.cells #[.slice none 0 0, .int .i64 0, .int .i64 0] 24) = W := ⟨_, rfl⟩
  have hB : Below w.heap.size w W := by rw [← hW]; exact ((Below.refl _ _).alloc (Nat.le_refl _) _).alloc (by simp) _
  have hWs : W.heap.size = w.heap.size + 2 := by rw [← hW]; simp
  have HB := Lib.hid hB
  have HWS := Lib.hid hWs
  have KR := Lib.hid (show Cur3 W (w.heap.size + 1) (.slice none 0 0) (.int .i64 0) (.int .i64 0) by rw [← hW]; exact Cur3.new2 w _ _ _ _ _)
  have K0 := Lib.hid (show Cur3 W w.heap.size (.slice a n cap) (.int .i64 p) (.int .i64 inc) by rw [← hW]; exact (Cur3.new w _ _ _ _).alloc _)
  have HR := Lib.hid (h.under hB)
  have HG := Lib.hid g
  have HW := Lib.hid hW
  obtain ⟨hm1, hm2⟩ := hm
  have hp64' : In64 (p : Int) := ⟨by have := g.p2; omega, by have := g.p2; omega⟩
  have hi64' : In64 inc := ⟨by have := g.i0; omega, by have := g.i1; omega⟩
  have HV := Lib.hid (rvalid_any a n cap zs p inc hp64' hi64' true ((okC_iff zs p inc).2 g))
  have te : ¬ m < 1 := by omega
  have te2 : ¬ (1500 : Int) < m := by omega
  have te3 : decide (m < 1) = false := decide_eq_false te
  have te4 : decide ((1500 : Int) < m) = false := decide_eq_false te2
  have hwm : IntKind.i64.wrap (m - 1) = m - 1 := IntWalk.i64_in _ ⟨by omega, by omega⟩
  obtain ⟨c0, c1, c2, f0, f1, f2⟩ := K0.out
  clear hB hWs h g hW hp64' hi64'
  go_enter Tryz.func14, Tryz.ntmps14
  go_upto_region 1 with fail
  try rw [HW.out]
  go_wp2_with fail
  clear c0 c1 c2 f0 f1 f2
  refine (HV.out _ HR.out).mono ?_
  rintro e v0 ⟨rfl, hb0⟩
  have B0 := Lib.hid hb0
  clear hb0
  obtain ⟨c0, c1, c2, f0, f1, f2⟩ := K0.out.below B0.out
  go_wp2_with fail
  clear c0 c1 c2 f0 f1 f2
  refine (rleast_any a n cap zs p inc HG.out _ (HR.out.under B0.out)).mono ?_
  rintro e v1 ⟨a', n', cap', zs', p', inc', rfl, hb, hr, hn, hx⟩
  obtain ⟨W2, hw2⟩ : ∃ W', v1.alloc (.cells #[.slice a' n' cap', .int .i64 p', .int .i64 inc'] 24) = W' := ⟨_, rfl⟩
  have hz2 : Below v1.heap.size v1 W2 := by rw [← hw2]; exact below_box _
  obtain ⟨A, hA⟩ : ∃ A, v1.heap.size = A := ⟨_, rfl⟩
  have XA := Lib.hid (show Bx W2 A a' n' cap' p' inc' zs' by rw [← hw2, ← hA]; exact Bx.new hr)
  have hWz : Below W.heap.size W W2 := B0.out.trans ((hb.trans (hz2.mono hb.size)).mono B0.out.size)
  have KR2 := Lib.hid (KR.out.below hWz)
  have HB2 := Lib.hid (HB.out.trans (hWz.mono HB.out.size))
  have GN := Lib.hid (hn.good HG.out)
  have HEE := Lib.hid (show eHop (m - 1) zs' p' inc' = eHop (m - 1) zs p inc from funext fun t => by unfold eHop eLower; simp only [(hn.eform HG.out).2.1])
  have gp := GN.out.p1
  have gp2 := GN.out.p2
  have gi := GN.out.i0
  have gi2 := GN.out.i1
  have hp64 : In64 (p' : Int) := ⟨by omega, by omega⟩
  have hi64 : In64 inc' := ⟨by omega, by omega⟩
  have HW2 := Lib.hid hw2
  have HAE := Lib.hid hA
  obtain ⟨fb, hfb⟩ : ∃ b : Bool, b = true ↔ ¬ InfC zs' := by
    by_cases hi : InfC zs'
    · exact ⟨false, ⟨(fun h => by cases h), fun h => absurd hi h⟩⟩
    · exact ⟨true, ⟨fun _ => hi, fun _ => rfl⟩⟩
  have HFB := Lib.hid hfb
  have HFC := Lib.hid (rfinite_any a' n' cap' zs' p' inc' hp64 hi64 fb (fin_is GN.out fb hfb))
  obtain ⟨v4, hv4⟩ : ∃ v, atC zs' p' inc' 400 = v := ⟨_, rfl⟩
  have HV4 := Lib.hid hv4
  obtain ⟨g0, g1, g2, g3, g4, g5⟩ := XA.out.box
  clear hb hr hn hx hw2 hz2 hA hWz hfb hv4 hp64 hi64
  go_upto_region 6 with fail
  try rw [HW2.out]
  try rw [HAE.out]
  by_cases hno : fb = true ∧ 0 < inc' ∧ v4 < m - 1
  · obtain ⟨rfl, hi0, hlt4⟩ := hno
    have HNO := Lib.hid (hop_no GN.out (HFB.out.1 rfl) hi0 (by rw [HV4.out]; exact hlt4))
    go_wp2_with fail
    clear g0 g1 g2 g3 g4 g5
    refine (HFC.out _ XA.out.row).mono ?_
    rintro e v2 ⟨rfl, hb2⟩
    have B2 := Lib.hid hb2
    clear hb2
    obtain ⟨g0, g1, g2, g3, g4, g5⟩ := XA.out.box.below B2.out
    go_wp2_with fail
    clear g0 g1 g2 g3 g4 g5
    refine (rat_at a' n' cap' zs' p' inc' GN.out 400 400 rfl (by omega) v4 HV4.out _ (XA.out.row.under B2.out)).mono ?_
    rintro e v3 ⟨rfl, hb3⟩
    have B3 := Lib.hid (B2.out.trans (hb3.mono B2.out.size))
    clear hb3
    have HP := Lib.hid (GivesE.postNo (E := eHop (m - 1) zs p inc) (b := w.heap.size + 1) HB2.out (by omega) B3.out (by rw [← HEE.out]; exact HNO.out))
    obtain ⟨r0, r1, r2, r3, r4, r5⟩ := KR2.out.below B3.out
    go_wp2_with fail
    exact bodyPost_ret (v := .tuple #[curV none 0 0 0 0, .int .i64 3]) (by simp [results, Tryz.results14, go_sem, r0, r1, r2]) rfl HP.out
  · have HD := Lib.hid (show ¬ InfC zs' → 0 < inc' → m - 1 ≤ atC zs' p' inc' 400 from fun h1 h2 => by
      rw [HV4.out]
      refine Int.not_lt.1 fun h3 => hno ⟨HFB.out.2 h1, h2, h3⟩)
    obtain ⟨f, hf⟩ : ∃ f, encF (eHop (m - 1) zs' p' inc') = f := ⟨_, rfl⟩
    have HF := Lib.hid hf
    have HRAW := Lib.hid (show RawE (firsts f (401 + p')) p' inc' (eHop (m - 1) zs' p' inc') by rw [← hf]; exact hop_raw GN.out (by omega) HD.out)
    have HVAL := Lib.hid (show ∀ t, t ≤ 1000 → f (t + 1) = if atC zs' p' inc' t = infV then infV else max 0 (atC zs' p' inc' t - (m - 1)) from fun t ht => by
      rw [← hf, hop_val]
      by_cases h2 : atC zs' p' inc' t = infV
      · rw [if_pos h2, if_pos]
        unfold eC
        rw [if_pos ⟨GN.out.inf_at (by omega) h2, h2⟩]
      · rw [if_neg h2, if_neg]
        · omega
        · unfold eC
          rw [if_neg (fun h => h2 h.2)]
          exact fun h => by cases h)
    have HV0 := Lib.hid (show f 0 = 0 from by rw [← hf]; rfl)
    have HMID := Lib.hid (show ∀ t, t ≤ 1000 → Mid (atC zs' p' inc' t) from fun t ht => at_mid GN.out ht)
    have HIN := Lib.hid (show ∀ t, t < 401 + p' → In64 (f t) from fun t ht => by
      cases t with
      | zero => rw [HV0.out]; exact ⟨by decide, by decide⟩
      | succ t =>
        rw [HVAL.out t (by omega)]
        split
        · exact ⟨by unfold infV; omega, by unfold infV; omega⟩
        · have := (HMID.out t (by omega)).bd; exact ⟨by omega, by omega⟩)
    have hnl : zs'.length = n' := XA.out.row.len
    go_cut [36] (fun s36 wx => s36 = .bool false ∧ Hid (Below W2.heap.size W2 wx))
    case first =>
      cases fb with
      | false =>
        go_wp2_with fail
        clear g0 g1 g2 g3 g4 g5
        refine (HFC.out _ XA.out.row).mono ?_
        rintro e v2 ⟨rfl, hb2⟩
        have B2 := Lib.hid hb2
        clear hb2
        go_wp2_with fail
        go_meet
        exact ⟨rfl, B2⟩
      | true =>
        by_cases hi0 : 0 < inc'
        · have hv4c : ¬ v4 < m - 1 := fun h => hno ⟨rfl, hi0, h⟩
          have hv4d : decide (v4 < m - 1) = false := decide_eq_false hv4c
          clear hno
          go_wp2_with fail
          clear g0 g1 g2 g3 g4 g5
          refine (HFC.out _ XA.out.row).mono ?_
          rintro e v2 ⟨rfl, hb2⟩
          have B2 := Lib.hid hb2
          clear hb2
          obtain ⟨g0, g1, g2, g3, g4, g5⟩ := XA.out.box.below B2.out
          go_wp2_with fail
          clear g0 g1 g2 g3 g4 g5
          refine (rat_at a' n' cap' zs' p' inc' GN.out 400 400 rfl (by omega) v4 HV4.out _ (XA.out.row.under B2.out)).mono ?_
          rintro e v3 ⟨rfl, hb3⟩
          have B3 := Lib.hid (B2.out.trans (hb3.mono B2.out.size))
          clear hb3
          go_wp2_with fail
          go_meet
          exact ⟨rfl, B3⟩
        · clear hno
          go_wp2_with fail
          clear g0 g1 g2 g3 g4 g5
          refine (HFC.out _ XA.out.row).mono ?_
          rintro e v2 ⟨rfl, hb2⟩
          have B2 := Lib.hid hb2
          clear hb2
          obtain ⟨g0, g1, g2, g3, g4, g5⟩ := XA.out.box.below B2.out
          go_wp2_with fail
          go_meet
          exact ⟨rfl, B2⟩
    case rest =>
    obtain ⟨rfl, HC⟩ := hcut
    obtain ⟨wb, rfl⟩ : ∃ u : World, u = wc := ⟨_, rfl⟩
    have XA3 := Lib.hid (show Bx wb A a' n' cap' p' inc' zs' from ⟨XA.out.box.below HC.out, XA.out.row.under HC.out⟩)
    have KR3 := Lib.hid (KR2.out.below HC.out)
    have HB3 := Lib.hid (HB2.out.trans (HC.out.mono HB2.out.size))
    clear XA KR2 HB2 HC hno g0 g1 g2 g3 g4 g5
    have hwsz : ∃ N, N = wb.heap.size := ⟨_, rfl⟩
    obtain ⟨W3, hw3⟩ : ∃ V, (wb.alloc (.cells #[.int .i64 0] 3)).alloc (.cells #[.slice (some ⟨wb.heap.size, 0, none⟩) 1 1, .int .i64 p', .int .i64 inc'] 24) = V := ⟨_, rfl⟩
    have L0 := Lib.hid (show Aq wb (wb.heap.size + 1) p' inc' f 1 wb.heap.size 1 W3 by rw [← hw3]; exact Aq.start1 wb _ _ _ HV0.out)
    have HW3 := Lib.hid hw3
    clear hw3 hwsz
    obtain ⟨g0, g1, g2, g3, g4, g5⟩ := XA3.out.box
    go_upto_region 9 with fail
    try rw [HW3.out]
    clear g0 g1 g2 g3 g4 g5
    go_wp2_with fail
    go_loopw [8] (fun sl wx => ∃ (k gg cc : Nat), sl = .int .i64 k ∧ 1 ≤ k ∧ k ≤ 401 + p' ∧ Hid (Aq wb (wb.heap.size + 1) p' inc' f k gg cc wx)) (fun sl _ => 401 + p' - (intOf sl).toNat)
    case atStart => exact ⟨1, wb.heap.size, 1, by go_num, by omega, by omega, L0⟩
    case round =>
      obtain ⟨k, gg, cc, rfl, hk1, hk, HS⟩ := hrel
      obtain ⟨wk, rfl⟩ : ∃ u : World, u = wr := ⟨_, rfl⟩
      obtain ⟨g0, g1, g2, g3, g4, g5⟩ := XA3.out.box.below HS.out.below
      have hwp : IntKind.i64.wrap (400 + (p' : Int)) = 400 + (p' : Int) := IntWalk.i64_in _ ⟨by omega, by omega⟩
      by_cases hlt : k < 401 + p'
      · have hh : (k : Int) ≤ 400 + (p' : Int) := by omega
        obtain ⟨j, hkj⟩ : ∃ j, k = j + 1 := ⟨k - 1, by omega⟩
        have hwj : IntKind.i64.wrap ((k : Int) - 1) = (j : Int) := by rw [IntWalk.i64_in _ ⟨by omega, by omega⟩]; omega
        obtain ⟨v, hv⟩ : ∃ v, atC zs' p' inc' j = v := ⟨_, rfl⟩
        have HV := Lib.hid hv
        have hmid := HMID.out j (by omega)
        have hfk := HVAL.out j (by omega)
        rw [hv] at hmid hfk
        rw [← hkj] at hfk
        have hjb : j ≤ 1000 := by omega
        clear hkj
        have HMD := Lib.hid hmid
        obtain ⟨vv, hvv⟩ : ∃ v, f k = v := ⟨_, rfl⟩
        have HVV := Lib.hid hvv
        rw [hvv] at hfk
        have HFK := Lib.hid hfk
        clear hv hmid hfk hvv
        go_wp2_with fail
        clear g0 g1 g2 g3 g4 g5
        refine (rat_at a' n' cap' zs' p' inc' GN.out _ j rfl (by omega) v HV.out _ (XA3.out.row.under HS.out.below)).mono ?_
        rintro e w5 ⟨rfl, hb5⟩
        have L5 := Lib.hid (HS.out.under hb5)
        clear hb5
        by_cases hvi : v = 4611686018427387904
        · have hvb : (v == 4611686018427387904) = true := by simp [hvi]
          have hvn : (v != 4611686018427387904) = false := by simp [hvi]
          have hfv : v = vv := by rw [HFK.out, if_pos (by unfold infV; exact hvi)]; unfold infV; exact hvi
          subst hfv
          clear hvi
          have N8 : Hid (∀ j u, [Value.int .i64 v][j]? = some u → (w5.alloc (.cells #[.int .i64 v] 3)).cell? ((⟨w5.heap.size, 0, none⟩ : Addr).add j) = some u) := Lib.hid (World.news_of_block (cs := #[.int .i64 v]) (t := 3) (fr := (0, 0)) (heap_alloc_new w5 _))
          have L8 := Lib.hid (L5.out.alloc (.cells #[.int .i64 v] 3))
          have hlt8 : wb.heap.size ≤ (w5.alloc (.cells #[.int .i64 v] 3)).heap.size := L8.out.below.size
          obtain ⟨o0, o1, o2, o3, o4, o5⟩ := L5.out.out
          go_wp2_with (at_builtin; refine wpList_append_lies _ rfl _ _ 22 rfl wb.heap.size 3 ii0 (.int .i64 0) 1 8 Tryz.underlying22 ihi ihz0 ihz1 ihz2 rfl (by decide) (.slice (some ⟨gg, 0, none⟩) k cc) k ((firsts f k).map (Value.int .i64)) rfl L8.out.own ⟨w5.heap.size, 0, none⟩ 1 1 [.int .i64 v] rfl rfl N8.out ?c2a (by omega) ?c3a ?c4a hlt8 _ rfl ?_)
          case c2a => intro u hu; simp at hu; subst hu; rfl
          case c3a => unfold maxLen; omega
          case c4a => omega
          intro g9 cap9 w9 hown' hgrow hat hlt9
          obtain ⟨lnext, kout⟩ := L8.out.push hown' hgrow ((hatOf hat).imp id (fun h => by rw [h]; simp)) HVV.out
          have L10 := Lib.hid lnext
          clear hown' hgrow lnext hat o0 o1 o2 o3 o4 o5
          obtain ⟨o0, o1, o2, o3, o4, o5⟩ := kout
          go_wp2_with fail
          go_roundw
          case rel => exact ⟨k + 1, g9, cap9, by go_num, by omega, by omega, L10⟩
          case measure => simp [intOf]; omega
        · have hvb : (v == 4611686018427387904) = false := by simp [hvi]
          have hvn : (v != 4611686018427387904) = true := by simp [hvi]
          have hfv : vv = max 0 (v - (m - 1)) := by rw [HFK.out, if_neg (by unfold infV; exact hvi)]
          have hvr : 0 ≤ v ∧ v ≤ 2251799813685248 := by
            rcases HMD.out with h | h
            · exact absurd (by unfold infV at h; exact h) hvi
            · omega
          have hws : IntKind.i64.wrap (v - (m - 1)) = v - (m - 1) := IntWalk.i64_in _ ⟨by omega, by omega⟩
          have HFV := Lib.hid hfv
          clear hfv
          go_upto_region 14 with fail
          go_cut [9] (fun s9 wx => s9 = .int .i64 vv ∧ wx = w5)
          case first =>
            go_wp2_with fail
            all_goals go_meet
            all_goals exact ⟨by rw [HFV.out]; congr 1; first | omega | (split <;> omega), rfl⟩
          case rest =>
          obtain ⟨rfl, hwc5⟩ := hcut
          rw [hwc5]
          clear hwc5
          have N8 : Hid (∀ j u, [Value.int .i64 vv][j]? = some u → (w5.alloc (.cells #[.int .i64 vv] 3)).cell? ((⟨w5.heap.size, 0, none⟩ : Addr).add j) = some u) := Lib.hid (World.news_of_block (cs := #[.int .i64 vv]) (t := 3) (fr := (0, 0)) (heap_alloc_new w5 _))
          have L8 := Lib.hid (L5.out.alloc (.cells #[.int .i64 vv] 3))
          have hlt8 : wb.heap.size ≤ (w5.alloc (.cells #[.int .i64 vv] 3)).heap.size := L8.out.below.size
          obtain ⟨o0, o1, o2, o3, o4, o5⟩ := L5.out.out
          go_wp2_with (at_builtin; refine wpList_append_lies _ rfl _ _ 22 rfl wb.heap.size 3 ii0 (.int .i64 0) 1 8 Tryz.underlying22 ihi ihz0 ihz1 ihz2 rfl (by decide) (.slice (some ⟨gg, 0, none⟩) k cc) k ((firsts f k).map (Value.int .i64)) rfl L8.out.own ⟨w5.heap.size, 0, none⟩ 1 1 [.int .i64 vv] rfl rfl N8.out ?c2b (by omega) ?c3b ?c4b hlt8 _ rfl ?_)
          case c2b => intro u hu; simp at hu; subst hu; rfl
          case c3b => unfold maxLen; omega
          case c4b => omega
          intro g9 cap9 w9 hown' hgrow hat hlt9
          obtain ⟨lnext, kout⟩ := L8.out.push hown' hgrow ((hatOf hat).imp id (fun h => by rw [h]; simp)) HVV.out
          have L10 := Lib.hid lnext
          clear hown' hgrow lnext hat o0 o1 o2 o3 o4 o5
          obtain ⟨o0, o1, o2, o3, o4, o5⟩ := kout
          go_wp2_with fail
          go_roundw
          case rel => exact ⟨k + 1, g9, cap9, by go_num, by omega, by omega, L10⟩
          case measure => simp [intOf]; omega
      · have hh : ¬ (k : Int) ≤ 400 + (p' : Int) := by omega
        obtain rfl : k = 401 + p' := by omega
        have RLAST := Lib.hid (HS.out.row (by omega) HIN.out)
        have HBL := Lib.hid (HB3.out.trans (HS.out.below.mono HB3.out.size))
        have KRL := Lib.hid (KR3.out.below HS.out.below)
        obtain ⟨o0, o1, o2, o3, o4, o5⟩ := HS.out.out
        go_wp2_with fail
        clear o0 o1 o2 o3 o4 o5 g0 g1 g2 g3 g4 g5
        refine (rmade_ok _ _ _ _ _ _ HRAW.out _ RLAST.out).mono ?_
        rintro e v9 ⟨hb, ⟨a9, n9, cap9, z9, p9, i9, rfl, hr, hf, hx⟩ | ⟨rfl, hno⟩⟩
        · have HP := Lib.hid (GivesE.post (E := eHop (m - 1) zs p inc) (b := w.heap.size + 1) HBL.out (by omega) KRL.out.lt hb hr hx (by rw [← HEE.out]; exact hf))
          obtain ⟨r0, r1, r2, r3, r4, r5⟩ := KRL.out.below hb
          clear hb hr hf hx
          go_wp2_with fail
          exact bodyPost_ret (v := .tuple #[curV a9 n9 cap9 p9 i9, .int .i64 0]) (by simp [results, Tryz.results14, go_sem, r0, r1, r2]) rfl HP.out
        · have HP := Lib.hid (GivesE.postNo (E := eHop (m - 1) zs p inc) (b := w.heap.size + 1) HBL.out (by omega) hb (by rw [← HEE.out]; exact hno))
          obtain ⟨r0, r1, r2, r3, r4, r5⟩ := KRL.out.below hb
          clear hb hno
          go_wp2_with fail
          exact bodyPost_ret (v := .tuple #[curV none 0 0 0 0, .int .i64 3]) (by simp [results, Tryz.results14, go_sem, r0, r1, r2]) rfl HP.out
end Go.Proofs.YtkienpbmoilheaaGreat
