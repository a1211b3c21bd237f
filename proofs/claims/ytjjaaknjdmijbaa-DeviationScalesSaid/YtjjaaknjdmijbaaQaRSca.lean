/- The document's Scale. By the verifier's side. -/
import Derived.Test.YtjjaaknjdmijbaaQaR5D
import Derived.Test.YtjjaaknjdmijbaaQaRefP
namespace Go.Proofs.Ytjjaaknjdmijbaa
open Go.RowKit
set_option linter.unusedSimpArgs false
set_option linter.unusedVariables false

theorem scl_list (zs : List Int) (k : Int) : firsts (fun i => if zs.getD i 0 = infV then infV else zs.getD i 0 * k) zs.length = zs.map fun z => if z = infV then infV else z * k := by
  refine list_ext_getD (by rw [firsts_length]; simp) fun i hi => ?_
  rw [firsts_length] at hi
  rw [firsts_getD _ _ _ hi]
  have e : zs.getD i 0 = zs[i] := by simp [List.getD, hi]
  rw [e]
  simp [List.getD, hi]

set_option maxRecDepth 100000 in
set_option maxHeartbeats 3200000 in
theorem rscale_ok (a : Option Addr) (n cap : Nat) (zs : List Int) (p : Nat) (inc : Int) (g : Good zs p inc) (ki : Int) (hk0 : 1 ≤ ki) (hk1 : ki ≤ 1073741824) (w : World) (h : RowZ w a n cap zs) :
    Calls Try.prog 72 #[curV a n cap p inc, .int .i64 ki] w (GivesE (eScale ki zs p inc) w) := by
  obtain ⟨ii0, ihi, ihz0, ihz1, ihz2⟩ := info_parts info_int
  obtain ⟨W, hW⟩ : ∃ W, (w.alloc (.cells #[.slice a n cap, .int .i64 p, .int .i64 inc] 24)).alloc (.cells #[.slice none 0 0, .int .i64 0, .int .i64 0] 24) = W := ⟨_, rfl⟩
  have hB : Below w.heap.size w W := by rw [← hW]; exact ((Below.refl _ _).alloc (Nat.le_refl _) _).alloc (by simp) _
  have hWs : W.heap.size = w.heap.size + 2 := by rw [← hW]; simp
  have HB := Lib.hid hB
  have HWS := Lib.hid hWs
  have KR := Lib.hid (show Cur3 W (w.heap.size + 1) (.slice none 0 0) (.int .i64 0) (.int .i64 0) by rw [← hW]; exact Cur3.new2 w _ _ _ _ _)
  have HR := Lib.hid (h.under hB)
  have HG := Lib.hid g
  have HW := Lib.hid hW
  obtain ⟨c0, c1, c2, f0, f1, f2⟩ : Cur3 W w.heap.size (.slice a n cap) (.int .i64 p) (.int .i64 inc) := by rw [← hW]; exact (Cur3.new w _ _ _ _).alloc _
  clear hB hWs h g hW
  go_enter Try.func72, Try.ntmps72
  go_upto_region 1 with fail
  try rw [HW.out]
  go_wp2_with fail
  clear c0 c1 c2 f0 f1 f2
  refine (rnormal_ok a n cap zs p inc HG.out _ HR.out).mono ?_
  rintro e v1 ⟨a', n', cap', zs', p', inc', rfl, hb, hr, hn, hx⟩
  have hn1 : 1 ≤ n' := by have := (hn.good HG.out).p1; have := (hn.good HG.out).p3; have := hr.len; omega
  obtain ⟨ax, rfl, _⟩ := hr.cell 0 hn1
  obtain ⟨W2, hw2⟩ : ∃ W', v1.alloc (.cells #[.slice (some ax) n' cap', .int .i64 p', .int .i64 inc'] 24) = W' := ⟨_, rfl⟩
  have hz2 : Below v1.heap.size v1 W2 := by rw [← hw2]; exact below_box _
  obtain ⟨A, hA⟩ : ∃ A, v1.heap.size = A := ⟨_, rfl⟩
  have XA := Lib.hid (show Bx W2 A (some ax) n' cap' p' inc' zs' by rw [← hw2, ← hA]; exact Bx.new hr)
  have hWz : Below W.heap.size W W2 := hb.trans (hz2.mono hb.size)
  have KR2 := Lib.hid (KR.out.below hWz)
  have HB2 := Lib.hid (HB.out.trans (hWz.mono HB.out.size))
  have GN := Lib.hid (hn.good HG.out)
  have NF := Lib.hid (hn.eform HG.out)
  have HEE := Lib.hid (show eScale ki zs' p' inc' = eScale ki zs p inc from funext fun t => by unfold eScale; simp only [(hn.eform HG.out).2.1])
  have hnl : zs'.length = n' := hr.len
  have HNL := Lib.hid hnl
  have gp := GN.out.p1
  have gp2 := GN.out.p2
  have gn : n' ≤ 400 := by have := GN.out.few; omega
  have gi := GN.out.i0
  have gi2 := GN.out.i1
  have te : ¬ ki < 1 := by omega
  have te2 : ¬ (1073741824 : Int) < ki := by omega
  have te3 : decide (ki < 1) = false := decide_eq_false te
  have te4 : decide ((1073741824 : Int) < ki) = false := decide_eq_false te2
  have mulb : ∀ x : Int, 0 ≤ x → x ≤ 1073741824 → 0 ≤ x * ki ∧ x * ki ≤ 1152921504606846976 := fun x h0 h1 => by
    have h := Int.mul_le_mul h1 hk1 (by omega) (by omega)
    exact ⟨Int.mul_nonneg h0 (by omega), by omega⟩
  obtain ⟨J, hJ⟩ : ∃ J, inc' * ki = J := ⟨_, rfl⟩
  have hJw : IntKind.i64.wrap J = J := by have := mulb inc' gi gi2; rw [hJ] at this; exact IntWalk.i64_in _ ⟨by omega, by omega⟩
  have JI := Lib.hid (show In64 J from by have := mulb inc' gi gi2; rw [hJ] at this; exact ⟨by omega, by omega⟩)
  obtain ⟨f, hf⟩ : ∃ f : Nat → Int, (fun i => if zs'.getD i 0 = infV then infV else zs'.getD i 0 * ki) = f := ⟨_, rfl⟩
  have HVAL := Lib.hid (show ∀ i, f i = if zs'.getD i 0 = infV then infV else zs'.getD i 0 * ki from fun i => by rw [← hf])
  have HFL := Lib.hid (show firsts f n' = zs'.map fun z => if z = infV then infV else z * ki from by rw [← hf, ← hnl]; exact scl_list zs' ki)
  have HIN := Lib.hid (show ∀ t, t < n' → In64 (f t) from fun t ht => by
    rw [HVAL.out]
    split
    · exact ⟨by decide, by decide⟩
    · rename_i hne
      rcases GN.out.val t (by omega) with h | h
      · have := mulb _ h.1 h.2; exact ⟨by omega, by omega⟩
      · exact absurd h hne)
  have HSF := Lib.hid (scale_form NF.out hk0 hk1 (xs := firsts f n') HFL.out)
  have MB := Lib.hid mulb
  obtain ⟨W3, hw3⟩ : ∃ W', W2.alloc (.cells #[.slice none 0 0, .int .i64 p', .int .i64 J] 24) = W' := ⟨_, rfl⟩
  have L0 := Lib.hid (show Ap W2 p' J f 0 (.slice none 0 0) W3 by rw [← hw3]; exact Ap.start W2 _ _ _)
  have HW2 := Lib.hid hw2
  have HAE := Lib.hid hA
  have HW3 := Lib.hid hw3
  have HJ := Lib.hid hJ
  obtain ⟨g0, g1, g2, g3, g4, g5⟩ := XA.out.box
  clear hb hr hn hx hw2 hz2 hA hWz hf hw3 hnl mulb
  go_upto_region 4 with fail
  try rw [HW2.out]
  try rw [HAE.out]
  go_upto_region 7 with fail
  try rw [HW3.out]
  clear g0 g1 g2 g3 g4 g5 hJ
  go_wp2_with fail
  go_loopg [9] n' (fun gh s9 wx => ∃ (k : Nat) (sv : Value), k + gh = n' ∧ s9 = .int .i64 k ∧ Hid (Ap W2 p' J f k sv wx))
  case atStart => exact ⟨0, _, by omega, by go_num, L0⟩
  case round =>
    obtain ⟨k, sv, hkg, rfl, HS⟩ := hrel
    obtain ⟨wk, rfl⟩ : ∃ u : World, u = wr := ⟨_, rfl⟩
    clear L0
    obtain ⟨g0, g1, g2, g3, g4, g5⟩ := XA.out.box.below HS.out.below
    obtain ⟨o0, o1, o2, o3, o4, o5⟩ := HS.out.out
    by_cases hlt : k < n'
    · obtain ⟨gh, rfl⟩ : ∃ g, gk = g + 1 := ⟨gk - 1, by omega⟩
      have hlti : (k : Int) < (n' : Int) := by omega
      have hkw : IntKind.i64.wrap ((k : Int) + 1) = ((k + 1 : Nat) : Int) := by rw [IntWalk.i64_in _ ⟨by omega, by omega⟩]; omega
      obtain ⟨y, hy, hcx⟩ := (XA.out.row.under HS.out.below).cell k hlt
      cases hy
      obtain ⟨v, hv⟩ : ∃ v, zs'.getD k 0 = v := ⟨_, rfl⟩
      rw [hv] at hcx
      have HV := Lib.hid hv
      have hvb := GN.out.val k (by have := HNL.out; omega)
      rw [hv] at hvb
      clear hv
      by_cases hi : v = 4611686018427387904
      · have t1 : (v != 4611686018427387904) = false := by simpa using hi
        obtain ⟨vv, hvv⟩ : ∃ vv, v = vv := ⟨_, rfl⟩
        have HVV := Lib.hid (show f k = v from by rw [HVAL.out, HV.out, if_pos hi, hi])
        clear hi hvb hvv
        go_upto_region 13 with fail
        clear hcx g0 g1 g2 g3 g4 g5
        have N8 : Hid (∀ j u, [Value.int .i64 v][j]? = some u → (wk.alloc (.cells #[.int .i64 v] 3)).cell? ((⟨wk.heap.size, 0, none⟩ : Addr).add j) = some u) := Lib.hid (World.news_of_block (cs := #[.int .i64 v]) (t := 3) (fr := (0, 0)) (heap_alloc_new wk _))
        have L8 := Lib.hid (HS.out.alloc (.cells #[.int .i64 v] 3))
        have hlt8 : W2.heap.size + 1 ≤ wk.heap.size := HS.out.out.lt
        go_wp2_with (at_builtin; refine wpList_append_own _ rfl _ _ 22 rfl (W2.heap.size + 1) 3 ii0 (.int .i64 0) 1 8 Try.underlying22 ihi ihz0 ihz1 ihz2 rfl (by decide) _ _ _ rfl L8.out.own ⟨wk.heap.size, 0, none⟩ 1 1 [.int .i64 v] rfl rfl N8.out ?c2 ?c3 ?c4 ?c5 ?_)
        case c2 => intro u hu; simp at hu; subst hu; rfl
        case c3 => unfold maxLen; omega
        case c4 => omega
        case c5 => exact L8.out.out.lt
        intro v' w9 hown' hgrow _
        obtain ⟨g9, cap9, rfl, hg9, hg9'⟩ := hown'.form (Nat.succ_pos _)
        obtain ⟨lnext, kout⟩ := L8.out.push hown' hgrow HVV.out
        have L10 := Lib.hid lnext
        clear hown' hgrow lnext o0 o1 o2 o3 o4 o5
        obtain ⟨o0, o1, o2, o3, o4, o5⟩ := kout
        go_wp2_with fail
        go_roundg gh
        case measure => omega
        case rel => exact ⟨k + 1, _, by omega, by go_num, L10⟩
      · have t1 : (v != 4611686018427387904) = true := by simpa using hi
        have hb2 := MB.out v (by rcases hvb with h | h; exact h.1; exact absurd h hi) (by rcases hvb with h | h; exact h.2; exact absurd h hi)
        obtain ⟨vv, hvv⟩ : ∃ vv, v * ki = vv := ⟨_, rfl⟩
        rw [hvv] at hb2
        have hvw : IntKind.i64.wrap vv = vv := IntWalk.i64_in _ ⟨by omega, by omega⟩
        have HVV := Lib.hid (show f k = vv from by rw [HVAL.out, HV.out, if_neg hi, hvv])
        clear hi hvb hb2
        go_upto_region 13 with fail
        clear hcx g0 g1 g2 g3 g4 g5
        have N8 : Hid (∀ j u, [Value.int .i64 vv][j]? = some u → (wk.alloc (.cells #[.int .i64 vv] 3)).cell? ((⟨wk.heap.size, 0, none⟩ : Addr).add j) = some u) := Lib.hid (World.news_of_block (cs := #[.int .i64 vv]) (t := 3) (fr := (0, 0)) (heap_alloc_new wk _))
        have L8 := Lib.hid (HS.out.alloc (.cells #[.int .i64 vv] 3))
        have hlt8 : W2.heap.size + 1 ≤ wk.heap.size := HS.out.out.lt
        go_wp2_with (at_builtin; refine wpList_append_own _ rfl _ _ 22 rfl (W2.heap.size + 1) 3 ii0 (.int .i64 0) 1 8 Try.underlying22 ihi ihz0 ihz1 ihz2 rfl (by decide) _ _ _ rfl L8.out.own ⟨wk.heap.size, 0, none⟩ 1 1 [.int .i64 vv] rfl rfl N8.out ?c2 ?c3 ?c4 ?c5 ?_)
        case c2 => intro u hu; simp at hu; subst hu; rfl
        case c3 => unfold maxLen; omega
        case c4 => omega
        case c5 => exact L8.out.out.lt
        intro v' w9 hown' hgrow _
        obtain ⟨g9, cap9, rfl, hg9, hg9'⟩ := hown'.form (Nat.succ_pos _)
        obtain ⟨lnext, kout⟩ := L8.out.push hown' hgrow HVV.out
        have L10 := Lib.hid lnext
        clear hown' hgrow lnext o0 o1 o2 o3 o4 o5
        obtain ⟨o0, o1, o2, o3, o4, o5⟩ := kout
        go_wp2_with fail
        go_roundg gh
        case measure => omega
        case rel => exact ⟨k + 1, _, by omega, by go_num, L10⟩
    · obtain rfl : k = n' := by omega
      have hlti : ¬ (k : Int) < (k : Int) := by omega
      obtain ⟨gg, cc, rfl, RL, hgl⟩ := HS.out.row hn1 (by omega) HIN.out
      have HRL := Lib.hid RL
      have HBL := Lib.hid (HB2.out.trans (HS.out.below.mono HB2.out.size))
      have KRL := Lib.hid (KR2.out.below HS.out.below)
      have HO := Lib.hid HS.out.out
      have HBW := Lib.hid HS.out.below
      have HGL := Lib.hid hgl
      have i1 : In64 (p' : Int) := ⟨by omega, by omega⟩
      clear RL hgl
      go_wp2_with fail
      by_cases hg : Good (firsts f k) p' J
      · have HGD := Lib.hid hg
        clear hg
        refine (rvalid_any _ _ _ (firsts f k) p' J i1 JI.out true ((okC_iff _ _ _).2 HGD.out) _ HRL.out).mono ?_
        rintro e v9 ⟨rfl, hb⟩
        have HF := Lib.hid (show EForm (firsts f k) p' J (eScale ki zs p inc) from by
          have h := HSF.out.1
          rw [HJ.out] at h
          rw [← HEE.out]; exact h HGD.out)
        have HP := Lib.hid (GivesE.post (E := eScale ki zs p inc) (b := w.heap.size + 1) HB2.out (by omega) KR2.out.lt (HBW.out.trans (hb.mono HBW.out.size)) (HRL.out.under hb) (fun x hx => by cases hx; show W2.heap.size ≤ gg; have := HGL.out; omega) HF.out)
        obtain ⟨r0, r1, r2, r3, r4, r5⟩ := KRL.out.below hb
        clear g0 g1 g2 g3 g4 g5 o0 o1 o2 o3 o4 o5
        obtain ⟨o0, o1, o2, o3, o4, o5⟩ := HO.out.below hb
        clear hb
        go_wp2_with fail
        exact bodyPost_ret (v := .tuple #[curV (some ⟨gg, 0, none⟩) k cc p' J, .int .i64 0]) (by simp [results, Try.results72, go_sem, r0, r1, r2]) rfl HP.out
      · have HGD := Lib.hid hg
        have HOK := Lib.hid (show okC (firsts f k) p' J = false from by
          cases hq : okC (firsts f k) p' J with
          | false => rfl
          | true => exact absurd ((okC_iff _ _ _).1 hq) hg)
        clear hg
        refine (rvalid_any _ _ _ (firsts f k) p' J i1 JI.out false HOK.out _ HRL.out).mono ?_
        rintro e v9 ⟨rfl, hb⟩
        have HNO := Lib.hid (show ¬ ECan (eScale ki zs p inc) from by
          have h := HSF.out.2
          rw [HJ.out] at h
          rw [← HEE.out]; exact h HGD.out)
        have HP := Lib.hid (GivesE.postNo (E := eScale ki zs p inc) (b := w.heap.size + 1) HBL.out (by omega) hb HNO.out)
        obtain ⟨r0, r1, r2, r3, r4, r5⟩ := KRL.out.below hb
        clear hb g0 g1 g2 g3 g4 g5 o0 o1 o2 o3 o4 o5
        go_wp2_with fail
        exact bodyPost_ret (v := .tuple #[curV none 0 0 0 0, .int .i64 3]) (by simp [results, Try.results72, go_sem, r0, r1, r2]) rfl HP.out
end Go.Proofs.Ytjjaaknjdmijbaa
