/- Contracts of the document's Least at a curve that is not finite; Least, Normal, Finite, Start, Equal. By the verifier's side. -/
import Derived.Test.YtdakadgfnlpogaaRefL
import Derived.Test.YtdakadgfnlpogaaCurX
namespace Go.Proofs.Ytdakadgfnlpogaa
open Go.RowKit
set_option linter.unusedSimpArgs false

set_option maxRecDepth 100000 in
set_option maxHeartbeats 1000000 in
theorem rleast_inf (a : Option Addr) (n cap : Nat) (zs : List Int) (P : Nat) (inc : Int) (g : Good zs P inc) (i : Nat) (hi' : i < zs.length) (hz : zs.getD i 0 = infV) (hj : ∀ j, j < i → ¬ zs.getD j 0 = infV) (w : World) (h : RowZ w a n cap zs) :
    Calls Try.prog 37 #[curV a n cap P inc] w (GivesNorm zs P inc w) := by
  obtain ⟨i0, hi, hz0, hz1, hz2⟩ := info_parts info_int
  have hB : Below w.heap.size w ((w.alloc (.cells #[.slice a n cap, .int .i64 P, .int .i64 inc] 24)).alloc (.cells #[.slice none 0 0, .int .i64 0, .int .i64 0] 24)) := ((Below.refl _ _).alloc (Nat.le_refl _) _).alloc (by simp) _
  have L0 := Lib.hid (show Ls w a n cap P inc zs ((w.alloc (.cells #[.slice a n cap, .int .i64 P, .int .i64 inc] 24)).alloc (.cells #[.slice none 0 0, .int .i64 0, .int .i64 0] 24)) from
    ⟨hB, (Cur3.new w _ _ _ _).alloc _, h.under hB, Cur3.new2 w _ _ _ _ _⟩)
  have G := Lib.hid g
  have HL := Lib.hid h.len
  have H0 := Lib.hid h
  have hn4 : n ≤ 400 := by have := g.few; have := h.len; omega
  have hin : i < n := by have := h.len; omega
  have HZ := Lib.hid (And.intro hz hj)
  have hcm := h.cm
  have hle := h.le
  have HBD := Lib.hid h.bd
  clear h hB g hz hj hi'
  go_enter Try.func37, Try.ntmps37
  go_wp2_with fail
  generalize (w.alloc (.cells #[.slice a n cap, .int .i64 P, .int .i64 inc] 24)).alloc (.cells #[.slice none 0 0, .int .i64 0, .int .i64 0] 24) = w0 at L0 ⊢
  go_loopw [3] (fun s3 wx => ∃ k : Nat, s3 = .int .i64 k ∧ k ≤ i ∧ Hid (Ls w a n cap P inc zs wx)) (fun s3 _ => i - (intOf s3).toNat)
  case atStart => exact ⟨0, rfl, Nat.zero_le _, L0⟩
  case round =>
    clear L0
    obtain ⟨k, rfl, hk, L0⟩ := hrel
    obtain ⟨w0, rfl⟩ : ∃ u : World, u = wr := ⟨_, rfl⟩
    obtain ⟨c0, c1, c2, f0, f1, f2⟩ := L0.out.bf
    have hkn : (k : Int) < (n : Int) := by omega
    obtain ⟨x, rfl, ck⟩ := L0.out.rf.cell k (by omega)
    obtain ⟨v, hv⟩ : ∃ v, zs.getD k 0 = v := ⟨_, rfl⟩
    rw [hv] at ck
    by_cases hlt : k < i
    · have tv : (v == 4611686018427387904) = false := by have := HZ.out.2 k hlt; rw [hv] at this; simpa using this
      clear hv
      go_wp2_with fail
      go_roundw
      case rel => exact ⟨k + 1, by go_num, by omega, L0⟩
      case measure => simp [intOf]; omega
    · obtain rfl : k = i := by omega
      obtain rfl : v = 4611686018427387904 := by rw [← hv]; exact HZ.out.1
      have hcap : (k : Int) + 1 ≤ (cap : Int) := by omega
      have hcap0 : (0 : Int) ≤ (k : Int) + 1 := by omega
      have R1 := Lib.hid ((L0.out.rf.take (k + 1) (by omega)).alloc (.cells #[] 3))
      have hbase : w.heap.size + 1 + 1 ≤ w0.heap.size := by have := L0.out.br.lt; omega
      have hl0 := L0.out.bf.lt
      have hl1 : ¬ w.heap.size = w0.heap.size := by omega
      have hl2 : ¬ w0.heap.size = w.heap.size := by omega
      have hl3 : w.heap.size < w0.heap.size + 1 := by omega
      clear hv
      go_wp2_with (at_builtin; refine wpList_append_own _ rfl _ _ 22 rfl (w.heap.size + 1 + 1) 3 i0 (.int .i64 0) 1 8 Try.underlying22 hi hz0 hz1 hz2 rfl (by decide) _ _ _ rfl (World.ownsRow_made w0 #[] 0 hbase (Nat.zero_le _) rfl) x (k + 1) cap ((zs.take (k + 1)).map (Value.int .i64)) rfl ?cl ?c1 ?c2 ?c3 ?c4 ?c5 ?_)
      case cl => rw [List.length_map, Nat.mul_one]; exact R1.out.len
      case c1 =>
        intro j u hj
        rw [List.getElem?_map, Option.map_eq_some_iff] at hj
        obtain ⟨z, hz, rfl⟩ := hj
        have hjn : j < (zs.take (k + 1)).length := (List.getElem?_eq_some_iff.1 hz).1
        obtain ⟨x', hx, hc⟩ := R1.out.cell j (by rw [R1.out.len] at hjn; exact hjn)
        obtain rfl : x = x' := Option.some.inj hx
        rw [show (zs.take (k + 1)).getD j 0 = z by simp [List.getD, hz]] at hc
        exact hc
      case c2 => intro u hu; simp only [List.mem_map] at hu; obtain ⟨z, _, rfl⟩ := hu; rfl
      case c3 => unfold maxLen; omega
      case c4 => omega
      case c5 => simp; omega
      intro v' w1 hown' hgrow _
      have hb1 : Below w.heap.size w w1 := (L0.out.bl.alloc L0.out.bl.size _).grown hgrow (by have := L0.out.bl.size; simp; omega) (fun j hj => by cases hj; show w.heap.size ≤ w0.heap.size; omega)
      have K1 := Lib.hid ((L0.out.br.alloc (.cells #[] 3)).grown hgrow (fun j hj => by cases hj; exact L0.out.br.lt))
      have hown2 : w1.ownsRow (w.heap.size + 1 + 1) 3 1 v' (k + 1) ((zs.take (k + 1)).map (Value.int .i64)) := by simpa using hown'
      obtain ⟨a9, c9, hv9, R9, X9⟩ := rowZ_of_owns hown2 (by omega) (fun j hj => by
        rw [List.length_take] at hj
        rw [getD_take (by omega)]
        exact HBD.out j (by have := HL.out; omega))
      subst hv9
      have HP := Lib.hid (norm_post (b := w.heap.size + 1) (w := w) (zs := zs) (p := P) (inc := inc) hb1 (Nat.le_succ _) R9 (fun y hy => by have := X9 y hy; omega) 1 0 (.inr ⟨k, by have := HL.out; omega, HZ.out.1, HZ.out.2, rfl, rfl, rfl⟩))
      obtain ⟨o0, o1, o2, p0, p1, p2⟩ := K1.out
      clear hown' hown2 hgrow R9 X9 hb1 c0 c1 c2 f0 f1 f2
      go_wp2_with fail
      exact bodyPost_ret (v := curV a9 (k + 1) c9 1 0) (by simp [results, Try.results37, go_sem, o0, o1, o2]) rfl HP.out

theorem rleast_any (a : Option Addr) (n cap : Nat) (zs : List Int) (p : Nat) (inc : Int) (g : Good zs p inc) (w : World) (h : RowZ w a n cap zs) :
    Calls Try.prog 37 #[curV a n cap p inc] w (GivesNorm zs p inc w) := by
  by_cases hf : zs.getD (zs.length - 1) 0 = infV
  · have h1 := g.p1
    have h3 := g.p3
    obtain ⟨r, hr1, hr2, hr3, hr4⟩ := least_ex (fun q => zs.getD (q - 1) 0 = infV) zs.length (by omega) hf
    exact rleast_inf a n cap zs p inc g (r - 1) (by omega) hr3 (fun j hj hx => hr4 (j + 1) (by omega) (by omega) (by rw [Nat.add_sub_cancel]; exact hx)) w h
  · exact rleast_fin a n cap zs p inc g hf w h

set_option maxHeartbeats 800000 in
theorem rnormal_bad (a : Option Addr) (n cap : Nat) (zs : List Int) (p inc : Int) (hp : In64 p) (hi : In64 inc) (hb : okC zs p inc = false) (w : World) (h : RowZ w a n cap zs) :
    Calls Try.prog 14 #[curV a n cap p inc] w (Says (.tuple #[curV none 0 0 0 0, .int .i64 1]) w) := by
  have hB : Below w.heap.size w ((w.alloc (.cells #[.slice a n cap, .int .i64 p, .int .i64 inc] 24)).alloc (.cells #[.slice none 0 0, .int .i64 0, .int .i64 0] 24)) :=
    ((Below.refl _ _).alloc (Nat.le_refl _) _).alloc (by simp) _
  have HBl := Lib.hid hB
  have H := Lib.hid (h.under hB)
  have HB := Lib.hid hb
  clear h hb hB
  go_enter Try.func14, Try.ntmps14
  go_wp2_with fail
  refine (rvalid_any a n cap zs p inc hp hi false HB.out _ H.out).mono ?_
  rintro e w1 ⟨rfl, hb⟩
  obtain ⟨c0, c1, c2, f0, f1, f2⟩ := (Cur3.new2 w (.slice none 0 0) (.int .i64 0) (.int .i64 0) 24 (.cells #[.slice a n cap, .int .i64 p, .int .i64 inc] 24)).below hb
  have HB1 := Lib.hid (below_set3 (b := w.heap.size + 1) (HBl.out.trans (hb.mono HBl.out.size)) (Nat.le_succ _) (.slice none 0 0) (.int .i64 0) (.int .i64 0))
  clear hb
  go_wp2_with fail
  exact bodyPost_ret (v := .tuple #[curV none 0 0 0 0, .int .i64 1]) (by simp [results, Try.results14, go_sem, c0, c1, c2]) rfl ⟨rfl, HB1.out⟩

set_option maxHeartbeats 800000 in
theorem rnormal_ok (a : Option Addr) (n cap : Nat) (zs : List Int) (p : Nat) (inc : Int) (g : Good zs p inc) (w : World) (h : RowZ w a n cap zs) :
    Calls Try.prog 14 #[curV a n cap p inc] w (GivesNorm2 zs p inc w) := by
  have hB : Below w.heap.size w ((w.alloc (.cells #[.slice a n cap, .int .i64 p, .int .i64 inc] 24)).alloc (.cells #[.slice none 0 0, .int .i64 0, .int .i64 0] 24)) :=
    ((Below.refl _ _).alloc (Nat.le_refl _) _).alloc (by simp) _
  have HBl := Lib.hid hB
  have H := Lib.hid (h.under hB)
  have HB := Lib.hid ((okC_iff zs p inc).2 g)
  have G := Lib.hid g
  have a1 := g.p2; have a2 := g.i0; have a3 := g.i1
  clear h hB g
  go_enter Try.func14, Try.ntmps14
  go_wp2_with fail
  refine (rvalid_any a n cap zs p inc ⟨by omega, by omega⟩ ⟨by omega, by omega⟩ true HB.out _ H.out).mono ?_
  rintro e w1 ⟨rfl, hb⟩
  have KF := Lib.hid ((Cur3.new w (.slice a n cap) (.int .i64 p) (.int .i64 inc) 24).below (((Below.refl _ _).alloc (Nat.le_refl _) (.cells #[.slice none 0 0, .int .i64 0, .int .i64 0] 24)).trans (hb.mono (by simp))))
  have KR := Lib.hid ((Cur3.new2 w (.slice none 0 0) (.int .i64 0) (.int .i64 0) 24 (.cells #[.slice a n cap, .int .i64 p, .int .i64 inc] 24)).below hb)
  have H1 := Lib.hid (H.out.under hb)
  have HB1 := Lib.hid (HBl.out.trans (hb.mono HBl.out.size))
  clear hb
  obtain ⟨c0, c1, c2, f0, f1, f2⟩ := KF.out
  go_wp2_with fail
  refine (rleast_any a n cap zs p inc G.out _ H1.out).mono ?_
  rintro e w2 ⟨a', n', cap', zs', p', inc', rfl, hb2, hr2, hn2, hx2⟩
  clear c0 c1 c2 f0 f1 f2
  obtain ⟨c0, c1, c2, f0, f1, f2⟩ := KR.out.below hb2
  have hlt3 := KR.out.lt
  have HP := Lib.hid (norm_post2 (b := w.heap.size + 1) (HB1.out.trans (hb2.mono HB1.out.size)) (Nat.le_succ _) hr2 (fun y hy => by have := hx2 y hy; omega) p' inc' hn2)
  clear hb2 hr2 hn2 hx2 hlt3
  go_wp2_with fail
  exact bodyPost_ret (v := .tuple #[curV a' n' cap' p' inc', .int .i64 0]) (by simp [results, Try.results14, go_sem, c0, c1, c2]) rfl HP.out

end Go.Proofs.Ytdakadgfnlpogaa
