/- The walk of PacketServes. By the verifier's side. -/
import Derived.Test.YthljhddnfflpjaaPCfUCfZ
import Derived.Test.YthljhddnfflpjaaPHp1PkW
import Derived.Test.YthljhddnfflpjaaPAvMAvLPkMPkS
import Derived.Test.YthljhddnfflpjaaPCfL3TrYCfR
import Derived.Test.YthljhddnfflpjaaPRTrC
import Derived.Test.YthljhddnfflpjaaPTrPTrQ
import Derived.Test.YthljhddnfflpjaaPBaseApartPickKeepS
import Derived.Test.YthljhddnfflpjaaPKeepT
import Derived.Test.YthljhddnfflpjaaPZeroZero3DevH
import Derived.Test.YthljhddnfflpjaaPRCo3RCo4RCo5
import Derived.Test.YthljhddnfflpjaaPPacketArrivesW
namespace Go.Proofs.Ythljhddnfflpjaa
open Go.RowKit
set_option linter.unusedSimpArgs false
set_option linter.unusedVariables false

theorem day_hop {E E' : Nat → Option Int} (h : Day E) (he : ∀ t, E' (t + 1) = E t) : Day E' := by
  obtain ⟨s, c, hp, h | h⟩ := h
  · exact day_none (s := s + 1) fun t ht => by
      obtain ⟨r, rfl⟩ : ∃ r, t = r + 1 := ⟨t - 1, by omega⟩
      rw [he r, h r (by omega)]
  · refine day_some (F := fun t => encF E (t - 1)) (s := s + 1) (c := c) (fun t ht => ?_) (fun t ht => ?_)
    · obtain ⟨r, rfl⟩ : ∃ r, t = r + 1 := ⟨t - 1, by omega⟩
      rw [he r, h r (by omega)]; rfl
    · show encF E (t + 24 - 1) = encF E (t - 1) + c
      rw [show t + 24 - 1 = t - 1 + 24 by omega]; exact hp _ (by omega)
theorem day_lower {E : Nat → Option Int} (h : Day E) (x : Int) : Day (fun t => omax (omap (fun y => y - x) (E t)) (some 0)) := by
  have d0 : Day (fun _ => some 0) := day_some (F := fun _ => 0) (s := 0) (c := 0) (fun _ _ => rfl) (fun t ht => rfl)
  refine Day.max (E := fun t => omap (fun y => y - x) (E t)) ?_ d0
  obtain ⟨s, c, hp, h | h⟩ := h
  · exact day_none (s := s) fun t ht => by rw [h t ht]; rfl
  · exact day_some (F := fun t => encF E t - x) (s := s) (c := c) (fun t ht => by rw [h t ht]; rfl) (fun t ht => by
      show encF E (t + 24) - x = encF E t - x + c
      have := hp t ht; omega)
theorem addr_add0 (g T : Nat) : ((⟨g, 0, none⟩ : Addr).add T) = ⟨g, T, none⟩ := by unfold Addr.add; split <;> simp_all
theorem arr_byt {lp : List Pk} (hv : vcode lp = 0) (t : Int) : bytW t (sel (-1) lp) = arrT lp t := by
  rw [bytW_in hv, sel_all, sumG_all]; rfl
theorem sumI_most {g : Nat → Int} {c : Int} : ∀ n, (∀ i, i < n → g i ≤ c) → sumI g n ≤ (n : Int) * c
  | 0, _ => by simp [sumI]
  | n + 1, h => by
    have h1 := sumI_most n (fun i hi => h i (by omega))
    have h2 := h n (by omega)
    rw [sumI_succ]
    have : ((n + 1 : Nat) : Int) * c = (n : Int) * c + c := by rw [Int.natCast_add, Int.add_mul]; simp
    omega
/-- What is sent before each tick: at least what the curve asks for at some tick, at most what has arrived. -/
structure SentOk (lp : List Pk) (F : Nat → Int) (T : Nat) (ss : List Int) : Prop where
  len : ss.length = T
  zero : ss.getD 0 0 = 0
  bd : ∀ j, j < T → 0 ≤ ss.getD j 0 ∧ ss.getD j 0 ≤ arrT lp (j : Int)
  need : ∀ j, j < T → ∃ u, u ≤ j ∧ arrT lp (u : Int) + F (j - u) ≤ ss.getD j 0
  mono : ∀ j, j + 1 < T → ss.getD j 0 ≤ ss.getD (j + 1) 0
theorem getD_snoc_lt {ss : List Int} {x : Int} {j : Nat} (h : j < ss.length) : (ss ++ [x]).getD j 0 = ss.getD j 0 := by
  rw [List.getD_eq_getElem?_getD, List.getElem?_append_left h, ← List.getD_eq_getElem?_getD]
theorem getD_snoc_eq {ss : List Int} {x : Int} {j : Nat} (h : j = ss.length) : (ss ++ [x]).getD j 0 = x := by
  subst h; rw [List.getD_eq_getElem?_getD, List.getElem?_append_right (Nat.le_refl _), Nat.sub_self]; rfl
theorem SentOk.start {lp : List Pk} {F : Nat → Int} (h0 : arrT lp 0 = 0) (hF : F 0 = 0) : SentOk lp F 1 [0] :=
  ⟨rfl, rfl, fun j hj => by obtain rfl : j = 0 := by omega
                            exact ⟨Int.le_refl _, by rw [show ((0 : Nat) : Int) = 0 from rfl, h0]; exact Int.le_refl _⟩,
   fun j hj => by obtain rfl : j = 0 := by omega
                  exact ⟨0, Nat.le_refl _, by rw [show ((0 : Nat) : Int) = 0 from rfl, h0, Nat.sub_self, hF]; decide⟩,
   fun j hj => by omega⟩
theorem SentOk.next {lp : List Pk} {F : Nat → Int} {T : Nat} {ss : List Int} {now nd : Int} (h : SentOk lp F T ss) (hT : 1 ≤ T) (hm : ∀ s t : Int, s ≤ t → arrT lp s ≤ arrT lp t) (h0 : 0 ≤ nd) (h1 : now ≤ arrT lp (T : Int) ∨ now ≤ ss.getD (T - 1) 0) (h2 : ss.getD (T - 1) 0 ≤ now) (h3 : nd ≤ now) (hn : ∃ u, u ≤ T ∧ arrT lp (u : Int) + F (T - u) = nd) : SentOk lp F (T + 1) (ss ++ [now]) := by
  have hl := h.len
  have hb := h.bd (T - 1) (by omega)
  have hmm := hm ((T - 1 : Nat) : Int) (T : Int) (by omega)
  refine ⟨by simp [hl], by rw [getD_snoc_lt (by omega)]; exact h.zero, fun j hj => ?_, fun j hj => ?_, fun j hj => ?_⟩
  · by_cases e : j = T
    · subst e; rw [getD_snoc_eq hl.symm]; exact ⟨by omega, by omega⟩
    · rw [getD_snoc_lt (by omega)]; exact h.bd j (by omega)
  · by_cases e : j = T
    · subst e
      rw [getD_snoc_eq hl.symm]
      obtain ⟨u, hu, he⟩ := hn
      exact ⟨u, hu, by omega⟩
    · rw [getD_snoc_lt (by omega)]; exact h.need j (by omega)
  · by_cases e : j + 1 = T
    · rw [show (ss ++ [now]).getD (j + 1) 0 = now from getD_snoc_eq (by omega), show (ss ++ [now]).getD j 0 = ss.getD j 0 from getD_snoc_lt (by omega), show j = T - 1 by omega]; exact h2
    · rw [getD_snoc_lt (by omega), getD_snoc_lt (by omega)]; exact h.mono j (by omega)

/-- What stands: the source, the trace, the curve, the hop curve; all below a base. -/
structure SvB (w1 : World) (b : Nat) (ra : Option Addr) (rn rc : Nat) (a1 : Option Addr) (n1 c1 : Nat) (lp : List Pk) (Ff : Nat) (af : Option Addr) (nf cf : Nat) (zf : List Int) (pf : Nat) (jf : Int) (Fh : Nat) (ah : Option Addr) (nh ch : Nat) (zh : List Int) (ph : Nat) (jh : Int) (base : Nat) (wx : World) : Prop where
  src : Hld13 w1 b ra rn rc wx
  pk : PkR wx a1 n1 c1 lp
  bf : Cur3 wx Ff (.slice af nf cf) (.int .i64 pf) (.int .i64 jf)
  rf : RowZ wx af nf cf zf
  bh : Cur3 wx Fh (.slice ah nh ch) (.int .i64 ph) (.int .i64 jh)
  rh : RowZ wx ah nh ch zh
  hb : b < w1.heap.size
  hw : w1.heap.size ≤ base
  hs : base ≤ wx.heap.size
  lo1 : ∀ z, a1 = some z → 1 ≤ n1 → z.block < base ∧ z.block ≠ b
  lo2 : Ff < base ∧ Ff ≠ b
  lo3 : ∀ z, af = some z → 1 ≤ nf → z.block < base ∧ z.block ≠ b
  lo4 : Fh < base ∧ Fh ≠ b
  lo5 : ∀ z, ah = some z → 1 ≤ nh → z.block < base ∧ z.block ≠ b
theorem rowZ_block {u v : World} {a : Option Addr} {n c : Nat} {zs : List Int} (h : RowZ u a n c zs) (hb : ∀ z, a = some z → 1 ≤ n → v.heap[z.block]? = u.heap[z.block]?) : RowZ v a n c zs :=
  ⟨h.len, h.le, h.sm, h.cm, fun i hi => by
    obtain ⟨x, hx, hc⟩ := h.cell i hi
    refine ⟨x, hx, (World.cell?_of_block (w := u) (a := x.add i) ?_).trans hc⟩
    have e : (x.add i).block = x.block := by unfold Addr.add; split <;> rfl
    rw [e]
    exact hb x hx (by omega), h.bd⟩
theorem cur3_block {u v : World} {b : Nat} {x0 x1 x2 : Value} (h : Cur3 u b x0 x1 x2) (hb : v.heap[b]? = u.heap[b]?) : Cur3 v b x0 x1 x2 :=
  ⟨(World.cell?_of_block (w := u) (a := ⟨b, 0, none⟩) hb).trans h.c0, (World.cell?_of_block (w := u) (a := ⟨b, 1, none⟩) hb).trans h.c1, (World.cell?_of_block (w := u) (a := ⟨b, 2, none⟩) hb).trans h.c2,
    by have := h.f0; unfold World.frozen? at this ⊢; dsimp only at this ⊢; rw [hb]; exact this, by have := h.f1; unfold World.frozen? at this ⊢; dsimp only at this ⊢; rw [hb]; exact this, by have := h.f2; unfold World.frozen? at this ⊢; dsimp only at this ⊢; rw [hb]; exact this⟩
section
variable {w1 : World} {b : Nat} {ra : Option Addr} {rn rc : Nat} {a1 : Option Addr} {n1 c1 : Nat} {lp : List Pk} {Ff : Nat} {af : Option Addr} {nf cf : Nat} {zf : List Int} {pf : Nat} {jf : Int} {Fh : Nat} {ah : Option Addr} {nh ch : Nat} {zh : List Int} {ph : Nat} {jh : Int} {base : Nat} {u v : World}
theorem SvB.keep (h : SvB w1 b ra rn rc a1 n1 c1 lp Ff af nf cf zf pf jf Fh ah nh ch zh ph jh base u) (hb : Below base u v) : SvB w1 b ra rn rc a1 n1 c1 lp Ff af nf cf zf pf jf Fh ah nh ch zh ph jh base v := by
  obtain ⟨k, hk, hs⟩ := h.src.src
  have hbb : v.heap[b]? = u.heap[b]? := hb.block _ (by have := h.hb; have := h.hw; omega)
  have ap := h.src.ap
  refine ⟨⟨⟨k, hk, hbb.trans hs⟩, ⟨hb.os.trans ap.os, hb.tape.trans ap.tape, hb.output.trans ap.output, Nat.le_trans ap.size hb.size, fun j hj hjb => (hb.block j (by have := h.hw; omega)).trans (ap.block j hj hjb)⟩⟩,
    pkR_block h.pk (fun z hz h1 => hb.block _ (h.lo1 z hz h1).1), cur3_block h.bf (hb.block _ h.lo2.1), rowZ_block h.rf (fun z hz h1 => hb.block _ (h.lo3 z hz h1).1), cur3_block h.bh (hb.block _ h.lo4.1), rowZ_block h.rh (fun z hz h1 => hb.block _ (h.lo5 z hz h1).1), h.hb, h.hw, Nat.le_trans h.hs hb.size, h.lo1, h.lo2, h.lo3, h.lo4, h.lo5⟩
theorem SvB.call (h : SvB w1 b ra rn rc a1 n1 c1 lp Ff af nf cf zf pf jf Fh ah nh ch zh ph jh base u) (hb : Below u.heap.size u v) : SvB w1 b ra rn rc a1 n1 c1 lp Ff af nf cf zf pf jf Fh ah nh ch zh ph jh base v := h.keep (hb.mono h.hs)
theorem SvB.take (h : SvB w1 b ra rn rc a1 n1 c1 lp Ff af nf cf zf pf jf Fh ah nh ch zh ph jh base u) (hs : SrcAt v b ra rn rc) (ha : Apart b u v) : SvB w1 b ra rn rc a1 n1 c1 lp Ff af nf cf zf pf jf Fh ah nh ch zh ph jh base v :=
  ⟨h.src.call hs ha, pkR_block h.pk (fun z hz h1 => ha.block _ (by have := (h.lo1 z hz h1).1; have := h.hs; omega) (h.lo1 z hz h1).2), cur3_block h.bf (ha.block _ (by have := h.lo2.1; have := h.hs; omega) h.lo2.2), rowZ_block h.rf (fun z hz h1 => ha.block _ (by have := (h.lo3 z hz h1).1; have := h.hs; omega) (h.lo3 z hz h1).2), cur3_block h.bh (ha.block _ (by have := h.lo4.1; have := h.hs; omega) h.lo4.2), rowZ_block h.rh (fun z hz h1 => ha.block _ (by have := (h.lo5 z hz h1).1; have := h.hs; omega) (h.lo5 z hz h1).2), h.hb, h.hw, Nat.le_trans h.hs ha.size, h.lo1, h.lo2, h.lo3, h.lo4, h.lo5⟩
end
/-- The two lists: what is sent, when packets are done. -/
structure SvD (base T n1 gs cs G : Nat) (ss : List Int) (Fd : Nat → Int) (wx : World) : Prop where
  own : wx.ownsRow base 3 1 (.slice (some ⟨gs, 0, none⟩) T cs) T (ss.map (Value.int .i64))
  don : IntO wx G n1 Fd
  ne : gs ≠ G
  hG : base ≤ G
section
variable {base T n1 gs cs G : Nat} {ss : List Int} {Fd Fe : Nat → Int} {u v : World}
theorem SvD.call (h : SvD base T n1 gs cs G ss Fd u) (hb : Below u.heap.size u v) : SvD base T n1 gs cs G ss Fd v := ⟨own_below15 h.own hb, h.don.under hb, h.ne, h.hG⟩
theorem SvD.take {b : Nat} (h : SvD base T n1 gs cs G ss Fd u) (ha : Apart b u v) (hb : b < base) : SvD base T n1 gs cs G ss Fd v := ⟨own_apart15 h.own ha hb, h.don.of_block (ha.block _ h.don.lt (by have := h.hG; omega)), h.ne, h.hG⟩
theorem SvD.congr (h : SvD base T n1 gs cs G ss Fd u) (he : ∀ k, k < n1 → Fd k = Fe k) : SvD base T n1 gs cs G ss Fe u := ⟨h.own, h.don.congr he, h.ne, h.hG⟩
theorem SvD.store (h : SvD base T n1 gs cs G ss Fd u) {j : Nat} (hj : j < n1) (x : Int) : SvD base T n1 gs cs G ss (fun k => if k = j then x else Fd k) (u.setCell ⟨G, j, none⟩ (.int .i64 x)) := by
  refine ⟨?_, h.don.set hj x, h.ne, h.hG⟩
  obtain ⟨hl, hr⟩ := h.own
  refine ⟨hl, ?_⟩
  rcases hr with h0 | ⟨g, cap, cur, hv, hbase, hg, h1, h2, h3, h4⟩
  · exact .inl h0
  · refine .inr ⟨g, cap, cur, hv, hbase, ?_, h1, h2, h3, h4⟩
    cases hv
    exact (Below.heap_setCell _ _ _ _ h.ne).trans hg
theorem own_one (base : Nat) (w : World) (h : base ≤ w.heap.size) : (w.alloc (.cells #[.int .i64 0] 3)).ownsRow base 3 1 (.slice (some ⟨w.heap.size, 0, none⟩) 1 1) 1 (([0] : List Int).map (Value.int .i64)) :=
  ⟨by simp, .inr ⟨w.heap.size, 1, #[.int .i64 0], rfl, h, heap_alloc_new w _, Nat.le_refl _, by unfold maxLen; omega, rfl, rfl⟩⟩
theorem intO_made (w : World) (N : Nat) : IntO (w.alloc (.cells (madeCells #[.int .i64 0] N) 3)) w.heap.size N (fun i => if i < 0 then -1 else 0) := by
  obtain ⟨cs, h1, h2, h3⟩ := SumB.made w N
  exact ⟨cs, h1, by omega, fun k hk => by
    rw [h3 k hk]
    show some (Value.int .i64 0) = some (Value.int .i64 (if k < 0 then -1 else 0))
    rw [if_neg (Nat.not_lt_zero k)]⟩
theorem svd_two (h : base ≤ u.heap.size) : SvD base 1 n1 u.heap.size 1 (u.heap.size + 1) [0] (fun i => if i < 0 then -1 else 0) ((u.alloc (.cells #[.int .i64 0] 3)).alloc (.cells (madeCells #[.int .i64 0] n1) 3)) := by
  have h2 := intO_made (u.alloc (.cells #[.int .i64 0] 3)) n1
  rw [World.size_alloc] at h2
  exact ⟨own_below15 (own_one base u h) ((Below.refl _ _).alloc (Nat.le_refl _) _), h2, by omega, by omega⟩
theorem svd_two' (h : base ≤ u.heap.size) : SvD base 1 n1 (u.heap.size + 1) 1 u.heap.size [0] (fun i => if i < 0 then -1 else 0) ((u.alloc (.cells (madeCells #[.int .i64 0] n1) 3)).alloc (.cells #[.int .i64 0] 3)) := by
  have h2 := own_one base (u.alloc (.cells (madeCells #[.int .i64 0] n1) 3)) (by rw [World.size_alloc]; omega)
  rw [World.size_alloc] at h2
  exact ⟨h2, (intO_made u n1).under ((Below.refl _ _).alloc (Nat.le_refl _) _), by omega, h⟩
theorem SvD.sent (h : SvD base T n1 gs cs G ss Fd u) (hT : T ≤ 1000) (hb : ∀ j, j < T → In64 (ss.getD j 0)) : ss.length = T ∧ RowZ u (some ⟨gs, 0, none⟩) T cs ss := by
  have hl : ss.length = T := by have := h.own.1; simpa using this
  obtain ⟨a, c, hv, hr, _⟩ := rowZ_of_owns h.own (by omega) (fun i hi => hb i (by omega))
  cases hv
  exact ⟨hl, hr⟩
end

set_option maxRecDepth 100000 in
set_option maxHeartbeats 12800000 in
theorem packetServes_walk (W : World) (a : Option Addr) (n cap : Nat) (hrow : RowAt W a n cap) :
    Calls Try.prog 11 #[.slice a n cap] W fun e w' => e = .returned (.bool true) ∧ Below W.heap.size W w' := by
  obtain ⟨j0, hj, hy0, hy1, hy2⟩ := info_parts info_int
  have HR := Lib.hid hrow
  clear hrow
  go_enter Try.func11, Try.ntmps11
  go_wp2_with fail
  refine (new_any a n cap _ HR.out).mono ?_
  rintro e ww1 ⟨rfl, hb1, hz1', ra, rn, rc, hs1⟩
  have HB1 := Lib.hid hb1
  have HS1 := Lib.hid hs1
  have hbl : W.heap.size < ww1.heap.size := by omega
  clear hb1 hz1' hs1
  go_wp2_with fail
  refine (traffic14 9 (by omega) 1 12 (by decide) (by decide) _ ra rn rc _ HS1.out).mono ?_
  rintro e ww2 ⟨lp, a1, n1, c1, rfl, hdr, hs2, he2, hr2, hx2⟩
  have HD := Lib.hid hdr
  have HH2 := Lib.hid ((Hld13.start HS1.out).call hs2 he2)
  have HS2 := Lib.hid hs2
  have R2 := Lib.hid hr2
  have HX := Lib.hid (show ∀ x, a1 = some x → ¬ x.block = W.heap.size from fun x hx => by have := hx2 x hx; omega)
  have HVC := Lib.hid (HD.out.vcode (by omega) (by omega) (by omega))
  have HLEN := Lib.hid hr2.len
  have hn9 : n1 ≤ 9 := by rw [← hr2.len]; exact HD.out.len
  have HT := Lib.hid (show ∀ i, i < n1 → 0 ≤ (lp.getD i default).t ∧ (lp.getD i default).t ≤ 63 ∧ 1 ≤ szI lp i ∧ szI lp i ≤ 12 from fun i hi => by
    have := HD.out.ok (lp.getD i default) (by rw [List.getD_eq_getElem?_getD, List.getElem?_eq_getElem (by rw [HLEN.out]; exact hi)]; exact List.getElem_mem _)
    unfold szI
    omega)
  have hsz2 := he2.size
  clear hdr hs2 he2 hr2 hx2
  go_wp2_with fail
  refine (zero_any3 5 (by omega) (by omega) _ ra rn rc _ HS2.out).mono ?_
  rintro e ww3 ⟨af, nf, cf, zf, pf, jf, rfl, hs3, he3, hr3, hg3, hi3, h03, hsm3, hx3⟩
  have HH3 := Lib.hid (HH2.out.call hs3 he3)
  have R3 := Lib.hid (pkR_apartZ R2.out he3 HX.out)
  have RF := Lib.hid hr3
  have GF := Lib.hid (And.intro hg3 (And.intro hi3 h03))
  have HDAY := Lib.hid (day_zero hi3 hsm3)
  have XF := Lib.hid hx3
  have hsz3 := he3.size
  clear hs3 he3 hr3 hg3 hi3 h03 hsm3 hx3 HH2 HS2 R2
  go_upto_region 4 with fail
  obtain ⟨V, hV⟩ : ∃ V, ww3.alloc (.cells #[.slice af nf cf, .int .i64 pf, .int .i64 jf] 24) = V := ⟨_, rfl⟩
  have hbv : Below ww3.heap.size ww3 V := by rw [← hV]; exact (Below.refl _ _).alloc (Nat.le_refl _) _
  have KF := Lib.hid (show Cur3 V ww3.heap.size (.slice af nf cf) (.int .i64 pf) (.int .i64 jf) by rw [← hV]; exact Cur3.new ww3 _ _ _ _)
  have RFV := Lib.hid (RF.out.under hbv)
  have RPV := Lib.hid (R3.out.under hbv)
  have HHV := Lib.hid (hldZ_below HH3.out hbv)
  have hszV : V.heap.size = ww3.heap.size + 1 := by rw [← hV]; simp
  have HZV := Lib.hid hszV
  rw [hV]
  clear hV hbv HH3 R3 hszV
  go_wp2_with fail
  go_loopw [36, 6] (fun s36 s6 wx => ∃ (k : Nat) (mo : Int), s36 = .int .i64 k ∧ s6 = .int .i64 mo ∧ k ≤ n1 ∧ 1 ≤ mo ∧ mo ≤ 12 ∧ Hid (∀ i, i < k → szI lp i ≤ mo) ∧ Hid (Below V.heap.size V wx)) (fun s36 _ _ => n1 - (intOf s36).toNat)
  case atStart => exact ⟨0, 1, by go_num, rfl, Nat.zero_le _, by omega, by omega, Lib.hid (fun i hi => absurd hi (Nat.not_lt_zero _)), Below.refl _ _⟩
  case round =>
    obtain ⟨k, mo, rfl, rfl, hk, hmo1, hmo2, HM, HW⟩ := hrel
    obtain ⟨wk, rfl⟩ : ∃ u : World, u = wr := ⟨_, rfl⟩
    by_cases hlt : k < n1
    · have hlI : (k : Int) < (n1 : Int) := by omega
      obtain ⟨B, off, q, ha, hcs, hq, hbd⟩ := (RPV.out.under HW.out).at hlt
      obtain ⟨d0, d1, d2⟩ := hcs k q hq
      have hqs : szI lp k = q.s := by unfold szI; rw [List.getD_eq_getElem?_getD, hq]; rfl
      have hqb := HT.out k hlt
      rw [hqs] at hqb
      have HN := Lib.hid (show ∀ i, i < k + 1 → szI lp i ≤ max mo q.s from fun i hi => by
        by_cases e : i = k
        · subst e; rw [hqs]; omega
        · have := HM.out i (by omega); omega)
      obtain ⟨_, _, q1, q2⟩ := hqb
      have HAA := Lib.hid ha
      clear hcs hq hbd hqs
      rw [ha]
      clear ha
      go_upto_region 8 with fail
      obtain ⟨u, hu⟩ : ∃ u : World, wk.alloc (.cells #[.int .i64 q.f, .int .i64 q.t, .int .i64 q.s] 94) = u := ⟨_, rfl⟩
      obtain ⟨hb, e0, e1, e2⟩ := box_pk hu
      have HU := Lib.hid (HW.out.trans (hb.mono HW.out.size))
      rw [hu]
      clear hu hb d0 d1 d2 e0 e1
      go_wp2_with fail
      go_roundw
      case rel => exact ⟨k + 1, max mo q.s, by go_num, by first | rfl | (congr 1; omega), by omega, by omega, by omega, HN, HU⟩
      case measure => first | (simp [intOf]; done) | (simp [intOf]; omega)
    · obtain rfl : k = n1 := by omega
      have hlI : ¬ (k : Int) < (k : Int) := by omega
      have KF4 := Lib.hid (KF.out.below HW.out)
      have RF4 := Lib.hid (RFV.out.under HW.out)
      have RP4 := Lib.hid (RPV.out.under HW.out)
      have HH4 := Lib.hid (hldZ_below HHV.out HW.out)
      have hszk := HW.out.size
      have HZK := Lib.hid hszk
      obtain ⟨c0, c1', c2, f0, f1, f2⟩ := KF4.out
      clear hszk KF RFV RPV HHV HW
      go_wp2_with fail
      clear c0 c1' c2 f0 f1 f2
      refine (hop15_ok af nf cf zf pf jf GF.out.1 mo ⟨hmo1, by omega⟩ _ RF4.out).mono ?_
      rintro e ww5 ⟨hb5, ⟨ah, nh, ch, zh, ph, jh, rfl, hrh, hfh, hxh⟩ | ⟨rfl, hno⟩⟩
      rotate_left
      · -- too long
        have HE := Lib.hid (hldZ_below HH4.out hb5)
        clear hb5 hno
        go_wp2_with fail
        refine (awake15 _).mono ?_
        rintro e ww6 ⟨rfl, hb6⟩
        have HE6 := Lib.hid (hldZ_below (hldZ_below HE.out ((Below.refl _ _).alloc (Nat.le_refl _) _)) hb6)
        clear hb6
        go_wp2_with fail
        go_ret
        exact ⟨rfl, HB1.out.trans (HE6.out.ap.below (Nat.le_refl _) HB1.out.size)⟩
      go_upto_region 11 with fail
      obtain ⟨V5, hV5⟩ : ∃ V, ww5.alloc (.cells #[.slice ah nh ch, .int .i64 ph, .int .i64 jh] 24) = V := ⟨_, rfl⟩
      have hbv : Below ww5.heap.size ww5 V5 := by rw [← hV5]; exact (Below.refl _ _).alloc (Nat.le_refl _) _
      have hbw : Below wk.heap.size wk V5 := hb5.trans (hbv.mono hb5.size)
      have hz5 : V5.heap.size = ww5.heap.size + 1 := by rw [← hV5]; simp
      have FH := Lib.hid hfh
      have HSV := Lib.hid (show SvB ww1 W.heap.size ra rn rc a1 k c1 lp ww3.heap.size af nf cf zf pf jf ww5.heap.size ah nh ch zh ph jh V5.heap.size V5 from by
        have hh := hb5.size
        have h3 := HZV.out
        have h4 := HZK.out
        exact ⟨hldZ_below HH4.out hbw, RP4.out.under hbw, KF4.out.below hbw, RF4.out.under hbw, by rw [← hV5]; exact Cur3.new ww5 _ _ _ _, hrh.under hbv, hbl, by omega, Nat.le_refl _,
          fun z hz h1 => ⟨by have := pkR_lt RP4.out z hz h1; omega, HX.out z hz⟩, ⟨by omega, by omega⟩,
          fun z hz h1 => ⟨by
            obtain ⟨x, hx, hc⟩ := RF4.out.cell 0 (by omega)
            rw [hz] at hx; cases hx
            have e : (z.add 0).block = z.block := by unfold Addr.add; split <;> rfl
            have := lt_of_cell hc
            rw [e] at this; omega, by have := XF.out z hz; omega⟩, ⟨by omega, by omega⟩,
          fun z hz h1 => ⟨by
            obtain ⟨x, hx, hc⟩ := hrh.cell 0 (by omega)
            rw [hz] at hx; cases hx
            have e : (z.add 0).block = z.block := by unfold Addr.add; split <;> rfl
            have := lt_of_cell hc
            rw [e] at this; omega, by have := hxh z hz; omega⟩⟩)
      rw [hV5]
      clear hV5 hbv hbw hz5 hb5 hrh hfh hxh KF4 RF4 RP4 HH4 HZV HZK
      obtain ⟨base, hbase⟩ : ∃ m, V5.heap.size = m := ⟨_, rfl⟩
      rw [hbase] at HSV
      have HBA := Lib.hid hbase
      obtain ⟨Ff, hFf⟩ : ∃ m, ww3.heap.size = m := ⟨_, rfl⟩
      rw [hFf] at HSV ⊢
      obtain ⟨Fh, hFh⟩ : ∃ m, ww5.heap.size = m := ⟨_, rfl⟩
      rw [hFh] at HSV ⊢
      clear hbase hFf hFh
      -- the numbers
      obtain ⟨F, hF⟩ : ∃ F, atC zf pf jf = F := ⟨_, rfl⟩
      have HFE := Lib.hid hF
      have HFB := Lib.hid (show (∀ t : Nat, 0 ≤ F t) ∧ (∀ t : Nat, F t ≤ 1073741824 * ((t : Int) + 1)) ∧ F 0 = 0 from by
        rw [← hF]
        refine ⟨fun t => (GF.out.1.bd GF.out.2.1 t).1, fun t => (GF.out.1.bd GF.out.2.1 t).2, ?_⟩
        rw [atC_lt (by have := GF.out.1.p1; have := GF.out.1.p3; omega)]; exact GF.out.2.2)
      have HHV := Lib.hid (show ∀ t : Nat, atC zh ph jh t = if t = 0 then 0 else max (F (t - 1) - (mo - 1)) 0 from fun t => by
        refine FH.out.at ?_
        unfold eHop
        by_cases e : t = 0
        · rw [if_pos e, if_pos e]
        · rw [if_neg e, if_neg e]; unfold eLower; rw [eC_fin GF.out.2.1, hF]; rfl)
      have HS0 := Lib.hid (show ∀ i, 0 ≤ szI lp i from fun i => by
        by_cases c : i < k
        · have := HT.out i c; omega
        · unfold szI; rw [List.getD_eq_getElem?_getD, List.getElem?_eq_none (by rw [HLEN.out]; omega)]; decide)
      have HSM := Lib.hid (show ∀ i, i < lp.length → 1 ≤ szI lp i ∧ szI lp i ≤ mo from fun i hi => by rw [HLEN.out] at hi; exact ⟨(HT.out i hi).2.2.1, HM.out i hi⟩)
      have HAM := Lib.hid (show ∀ s t : Int, s ≤ t → arrT lp s ≤ arrT lp t from fun s t h => arrT_mono HS0.out h)
      have HAB := Lib.hid (show ∀ t : Int, 0 ≤ arrT lp t ∧ arrT lp t ≤ 108 from fun t => ⟨arrT_nn HS0.out t, by
        have h1 := arrT_up HS0.out t
        have h2 := sumI_most (g := szI lp) (c := 12) lp.length (fun i hi => by rw [HLEN.out] at hi; exact (HT.out i hi).2.2.2)
        unfold preS at h1
        have h3 : (lp.length : Int) * 12 ≤ 108 := by rw [HLEN.out]; omega
        omega⟩)
      have HA0 := Lib.hid (show arrT lp 0 = 0 from by
        unfold arrT
        rw [sumI_congr (h := fun _ => 0) lp.length (fun i hi => if_neg (by rw [HLEN.out] at hi; have := (HT.out i hi).1; omega))]
        exact sumI_split (m := 0) (g := fun _ => 0) lp.length (Nat.zero_le _) (fun _ _ _ => rfl))
      have HPB := Lib.hid (show ∀ i, i ≤ k → 0 ≤ preS lp i ∧ preS lp i ≤ 108 from fun i hi => ⟨sumI_nn _ fun j _ => HS0.out j, by
        have h2 := sumI_most (g := szI lp) (c := 12) i (fun j hj => (HT.out j (by omega)).2.2.2)
        unfold preS; omega⟩)
      have HASC := Lib.hid HD.out.asc
      clear hF HM
      go_wp2_with fail
      -- region 13: two new lists, in whatever order
      have hmk : ∀ u : World, (Instr.makeSlice 22 (.int .i64 (k : Int)) (.int .i64 (k : Int))).run Try.prog u = .ok (.slice (some ⟨u.heap.size, 0, none⟩) k k) (u.alloc (.cells (madeCells #[.int .i64 0] k) 3)) := fun u => make13 k (by omega) u
      go_cut [11, 12] (fun s11 s12 wx => ∃ gs G : Nat, s11 = .slice (some ⟨gs, 0, none⟩) 1 1 ∧ s12 = .slice (some ⟨G, 0, none⟩) k k ∧ Hid (SvB ww1 W.heap.size ra rn rc a1 k c1 lp Ff af nf cf zf pf jf Fh ah nh ch zh ph jh base wx ∧ SvD base 1 k gs 1 G [0] (fun i => if i < 0 then -1 else 0) wx))
      case first =>
        have H1 := Lib.hid (HSV.out.call (Below.refl _ _).drew)
        go_region
        all_goals go_wp2_with fail
        all_goals go_meet
        all_goals (try case rel => (first
          | exact ⟨_, _, rfl, rfl, Lib.hid ⟨H1.out.call (((Below.refl _ _).alloc (Nat.le_refl _) _).alloc (by simp) _), svd_two (by have := H1.out.hs; exact this)⟩⟩
          | exact ⟨_, _, rfl, rfl, Lib.hid ⟨H1.out.call (((Below.refl _ _).alloc (Nat.le_refl _) _).alloc (by simp) _), svd_two' (by have := H1.out.hs; exact this)⟩⟩))
      case rest =>
        obtain ⟨gs, G, rfl, rfl, HC⟩ := hcut
        go_wp2_with fail
        go_loopw [64] (fun s64 wx => ∃ i : Nat, s64 = .int .i64 i ∧ i ≤ k ∧ Hid (SvB ww1 W.heap.size ra rn rc a1 k c1 lp Ff af nf cf zf pf jf Fh ah nh ch zh ph jh base wx ∧ SvD base 1 k gs 1 G [0] (fun x => if x < i then -1 else 0) wx)) (fun s64 _ => k - (intOf s64).toNat)
        case atStart => exact ⟨0, by go_num, Nat.zero_le _, HC⟩
        case round =>
          obtain ⟨i, rfl, hi, HI⟩ := hrel
          obtain ⟨wi, rfl⟩ : ∃ u : World, u = wr := ⟨_, rfl⟩
          by_cases hlt : i < k
          · have hlI : (i : Int) < (k : Int) := by omega
            have hgc := HI.out.2.don.cell hlt
            have hgf := HI.out.2.don.frozen
            rw [if_neg (Nat.lt_irrefl i)] at hgc
            have HN := Lib.hid (show SvB ww1 W.heap.size ra rn rc a1 k c1 lp Ff af nf cf zf pf jf Fh ah nh ch zh ph jh base (wi.setCell ⟨G, i, none⟩ (.int .i64 (-1))) ∧ SvD base 1 k gs 1 G [0] (fun x => if x < i + 1 then -1 else 0) (wi.setCell ⟨G, i, none⟩ (.int .i64 (-1))) from
              ⟨HI.out.1.keep ((Below.refl base wi).setCell (p := ⟨G, i, none⟩) HI.out.2.hG _), (HI.out.2.store hlt (-1)).congr fun x hx => by
                by_cases e : x = i
                · subst e; rw [if_pos rfl, if_pos (by omega)]
                · rw [if_neg e]
                  by_cases e2 : x < i
                  · rw [if_pos e2, if_pos (by omega)]
                  · rw [if_neg e2, if_neg (by omega)]⟩)
            go_wp2_with fail
            go_roundw
            case rel => exact ⟨i + 1, by go_num, by omega, HN⟩
            case measure => first | (simp [intOf]; done) | (simp [intOf]; omega)
          · obtain rfl : i = k := by omega
            have hlI : ¬ (i : Int) < (i : Int) := by omega
            have HM0 := Lib.hid (show SentOk lp F 1 [0] ∧ SvB ww1 W.heap.size ra rn rc a1 i c1 lp Ff af nf cf zf pf jf Fh ah nh ch zh ph jh base wi ∧ SvD base 1 i gs 1 G [0] (fun x => doneF (fun j => ([0] : List Int).getD j 0) (preS lp (x + 1)) 0) wi from
              ⟨SentOk.start HA0.out HFB.out.2.2, HI.out.1, HI.out.2.congr fun x hx => by rw [if_pos hx]; rfl⟩)
            clear HC HI
            go_wp2_with fail
            go_loopw [14, 11] (fun s14 s11 wx => ∃ (T gs cs : Nat) (ss : List Int), s14 = .int .i64 ((T : Int) + 1) ∧ s11 = .slice (some ⟨gs, 0, none⟩) (T + 1) cs ∧ T ≤ 199 ∧ Hid (SentOk lp F (T + 1) ss ∧ SvB ww1 W.heap.size ra rn rc a1 i c1 lp Ff af nf cf zf pf jf Fh ah nh ch zh ph jh base wx ∧ SvD base (T + 1) i gs cs G ss (fun x => doneF (fun j => ss.getD j 0) (preS lp (x + 1)) T) wx)) (fun s14 _ _ => 200 - (intOf s14).toNat)
            case atStart => exact ⟨0, gs, 1, [0], by first | rfl | go_num, by first | rfl | go_num, by omega, HM0⟩
            case round =>
              obtain ⟨T, gs, cs, ss, rfl, rfl, hT, HM⟩ := hrel
              obtain ⟨wt, rfl⟩ : ∃ u : World, u = wr := ⟨_, rfl⟩
              clear HM0
              by_cases hlt : T < 199
              · have hltI : (T : Int) + 1 < 200 := by omega
                obtain ⟨AT, hAT⟩ : ∃ v, arrT lp ((T : Int) + 1) = v := ⟨_, rfl⟩
                have HAT := Lib.hid hAT
                have hAT2 : 0 ≤ AT ∧ AT ≤ 108 := by rw [← hAT]; exact HAB.out _
                obtain ⟨at0, at1⟩ := hAT2
                have HBY := Lib.hid (show ∀ (t : Int) w, PkR w a1 i c1 lp → Calls Try.prog 89 #[.slice a1 i c1, .int .i64 (-1), .int .i64 t] w fun e w' => e = .returned (.int .i64 (arrT lp t)) ∧ w' = w from fun t w h => rbytes13 a1 i c1 lp (-1) t (arrT lp t) (arr_byt HVC.out t) w h)
                have hby := HBY.out ((T : Int) + 1) wt HM.out.2.1.pk
                rw [hAT] at hby
                have HBT := Lib.hid hby
                clear hAT hby
                go_wp2_with fail
                refine HBT.out.mono ?_
                rintro e w1 ⟨rfl, rfl⟩
                clear HBT
                go_wp2_with fail
                go_loopw [16, 15] (fun s16 s15 wx => ∃ (u : Nat) (nd : Int), s16 = .int .i64 u ∧ s15 = .int .i64 nd ∧ u ≤ T + 1 ∧ 0 ≤ nd ∧ nd ≤ AT ∧ Hid (∃ v, v ≤ T + 1 ∧ arrT lp (v : Int) + F (T + 1 - v) = nd) ∧ Hid (Below w1.heap.size w1 wx)) (fun s16 _ _ => T + 1 - (intOf s16).toNat)
                case atStart => exact ⟨0, AT, by go_num, rfl, Nat.zero_le _, at0, Int.le_refl _, Lib.hid ⟨T + 1, Nat.le_refl _, by rw [Nat.sub_self, HFB.out.2.2, ← HAT.out]; simp⟩, Below.refl _ _⟩
                case round =>
                  obtain ⟨u, nd, rfl, rfl, hu, nd0, nd1, HND, HW⟩ := hrel
                  obtain ⟨wu, rfl⟩ : ∃ x : World, x = wr := ⟨_, rfl⟩
                  by_cases hlu : u < T + 1
                  · have hluI : (u : Int) < (T : Int) + 1 := by omega
                    obtain ⟨X, hX⟩ : ∃ v, arrT lp (u : Int) = v := ⟨_, rfl⟩
                    obtain ⟨Y, hY⟩ : ∃ v, F (T + 1 - u) = v := ⟨_, rfl⟩
                    have HX2 := Lib.hid (And.intro hX hY)
                    have hX2 : 0 ≤ X ∧ X ≤ 108 := by rw [← hX]; exact HAB.out _
                    have hY2 : 0 ≤ Y ∧ Y ≤ 1073741824 * 300 := by
                      rw [← hY]; have h1 := HFB.out.1 (T + 1 - u); have h2 := HFB.out.2.1 (T + 1 - u); omega
                    obtain ⟨xx0, xx1⟩ := hX2
                    obtain ⟨yy0, yy1⟩ := hY2
                    have hwr : IntKind.i64.wrap ((T : Int) + 1 - (u : Int)) = (T : Int) + 1 - (u : Int) := IntWalk.i64_in _ ⟨by omega, by omega⟩
                    have hwx : IntKind.i64.wrap (X + Y) = X + Y := IntWalk.i64_in _ ⟨by omega, by omega⟩
                    have HBd := Lib.hid (show Below w1.heap.size w1 wu.drew from HW.out.trans (Below.refl _ wu).drew)
                    have HVd := Lib.hid (HM.out.2.1.call HBd.out)
                    have HKF := Lib.hid (show ∀ v, Below w1.heap.size w1 v → (v.cell? ⟨Ff, 0, none⟩ = some (.slice af nf cf) ∧ v.cell? ⟨Ff, 1, none⟩ = some (.int .i64 pf) ∧ v.cell? ⟨Ff, 2, none⟩ = some (.int .i64 jf)) from fun v hv => by
                      obtain ⟨x0, x1, x2, _, _, _⟩ := (HM.out.2.1.call hv).bf
                      exact ⟨x0, x1, x2⟩)
                    have hby := HBY.out (u : Int) wu.drew HVd.out.pk
                    rw [hX] at hby
                    have HBT := Lib.hid hby
                    have HATC := Lib.hid (show ∀ w, RowZ w af nf cf zf → Calls Try.prog 59 #[curV af nf cf pf jf, .int .i64 ((T : Int) + 1 - (u : Int))] w (Says (.int .i64 Y) w) from fun w h => rat_at af nf cf zf pf jf GF.out.1 ((T : Int) + 1 - (u : Int)) (T + 1 - u) (by omega) (by omega) Y (by rw [HFE.out]; exact hY) w h)
                    clear hX hY hby
                    go_upto_region 26 with fail
                    refine wp_region_keeps (fun u => u.cell? ⟨Ff, 0, none⟩ = some (.slice af nf cf) ∧ u.cell? ⟨Ff, 1, none⟩ = some (.int .i64 pf) ∧ u.cell? ⟨Ff, 2, none⟩ = some (.int .i64 jf)) 11 1 (by kernel_rfl) (by kernel_rfl) (HKF.out _ HBd.out) (fun hHeld0 => ?_)
                    refine wpAnyK_take (i := 0) (v := ?_) rfl (by kernel_rfl) (fun _ _ _ h => h) (Or.inl ⟨by rfl, ?_⟩) (by assumption) ?_
                    rotate_left
                    · (intro w hSw; (try dsimp only at hSw); go_simp; try with_reducible rfl)
                    try simp only [Act.put, List.getElem_toArray, List.getElem_cons_zero, List.getElem_cons_succ, List.setIfInBounds_toArray, List.set_cons_zero, List.set_cons_succ]
                    refine wpAnyK_take (i := 1) (v := ?_) rfl (by kernel_rfl) (fun _ _ _ h => h) (Or.inl ⟨by rfl, ?_⟩) (by assumption) ?_
                    rotate_left
                    · (intro w hSw; (try dsimp only at hSw); go_simp; try with_reducible rfl)
                    try simp only [Act.put, List.getElem_toArray, List.getElem_cons_zero, List.getElem_cons_succ, List.setIfInBounds_toArray, List.set_cons_zero, List.set_cons_succ]
                    refine wpAnyK_take (i := 2) (v := ?_) rfl (by kernel_rfl) (fun _ _ _ h => h) (Or.inl ⟨by rfl, ?_⟩) (by assumption) ?_
                    rotate_left
                    · (intro w hSw; (try dsimp only at hSw); go_simp; try with_reducible rfl)
                    try simp only [Act.put, List.getElem_toArray, List.getElem_cons_zero, List.getElem_cons_succ, List.setIfInBounds_toArray, List.set_cons_zero, List.set_cons_succ]
                    refine wpAnyK_take (i := 4) (v := ?_) rfl (by kernel_rfl) (fun _ _ _ h => h) (Or.inl ⟨by rfl, ?_⟩) (by assumption) ?_
                    rotate_left
                    · (intro w hSw; (try dsimp only at hSw); go_simp; try with_reducible rfl)
                    try simp only [Act.put, List.getElem_toArray, List.getElem_cons_zero, List.getElem_cons_succ, List.setIfInBounds_toArray, List.set_cons_zero, List.set_cons_succ]
                    refine wpAnyK_take (i := 5) (v := ?_) rfl (by kernel_rfl) (fun _ _ _ h => h) (Or.inl ⟨by rfl, ?_⟩) (by assumption) ?_
                    rotate_left
                    · (intro w hSw; (try dsimp only at hSw); go_simp; try with_reducible rfl)
                    try simp only [Act.put, List.getElem_toArray, List.getElem_cons_zero, List.getElem_cons_succ, List.setIfInBounds_toArray, List.set_cons_zero, List.set_cons_succ]
                    refine wpAnyK_take (i := 6) (v := ?_) rfl (by kernel_rfl) (fun _ _ _ h => h) (Or.inl ⟨by rfl, ?_⟩) (by assumption) ?_
                    rotate_left
                    · (intro w hSw; (try dsimp only at hSw); go_simp; try with_reducible rfl)
                    try simp only [Act.put, List.getElem_toArray, List.getElem_cons_zero, List.getElem_cons_succ, List.setIfInBounds_toArray, List.set_cons_zero, List.set_cons_succ]
                    refine wpAnyK_take (i := 7) (v := ?_) rfl (by kernel_rfl) (fun _ _ _ h => h) (Or.inl ⟨by rfl, ?_⟩) (by assumption) ?_
                    rotate_left
                    · (intro w hSw; (try dsimp only at hSw); go_simp; try with_reducible rfl)
                    try simp only [Act.put, List.getElem_toArray, List.getElem_cons_zero, List.getElem_cons_succ, List.setIfInBounds_toArray, List.set_cons_zero, List.set_cons_succ]
                    refine wpAnyK_step (i := 3) rfl (by kernel_rfl) (fun K hK => ?_)
                    go_simp
                    with_reducible refine (HBT.out).mono ?_
                    rintro e u1 ⟨rfl, rfl⟩

                    refine hK.out _ _ (HKF.out _ HBd.out) (fun hHeld1 => ?_)
                    clear hK K hHeld0
                    try simp only [Act.put, List.getElem_toArray, List.getElem_cons_zero, List.getElem_cons_succ, List.setIfInBounds_toArray, List.set_cons_zero, List.set_cons_succ]
                    refine wpAnyK_step (i := 8) rfl (by kernel_rfl) (fun K hK => ?_)
                    go_simp
                    with_reducible refine (HATC.out _ HVd.out.rf).mono ?_
                    rintro e u2 ⟨rfl, hb8⟩
                    have HB8 := Lib.hid (HBd.out.trans (hb8.mono HBd.out.size))
                    clear hb8
                    refine hK.out _ _ (HKF.out _ HB8.out) (fun hHeld2 => ?_)
                    clear hK K hHeld1
                    try simp only [Act.put, List.getElem_toArray, List.getElem_cons_zero, List.getElem_cons_succ, List.setIfInBounds_toArray, List.set_cons_zero, List.set_cons_succ]
                    refine wpAnyK_step (i := 9) rfl (by kernel_rfl) (fun K hK => ?_)
                    go_simp
                    refine hK.out _ _ (HKF.out _ HB8.out) (fun hHeld3 => ?_)
                    clear hK K hHeld2
                    try simp only [Act.put, List.getElem_toArray, List.getElem_cons_zero, List.getElem_cons_succ, List.setIfInBounds_toArray, List.set_cons_zero, List.set_cons_succ]
                    refine wpAnyK_step (i := 10) rfl (by kernel_rfl) (fun K hK => ?_)
                    go_simp
                    refine hK.out _ _ (HKF.out _ HB8.out) (fun hHeld4 => ?_)
                    clear hK K hHeld3
                    try simp only [Act.put, List.getElem_toArray, List.getElem_cons_zero, List.getElem_cons_succ, List.setIfInBounds_toArray, List.set_cons_zero, List.set_cons_succ]
                    refine wpAnyK_done (by kernel_rfl) ?_
                    simp only [List.drop_succ_cons, List.drop_zero]
                    clear hHeld4
                    go_wp2_with fail
                    go_roundw
                    case rel => exact ⟨u + 1, min nd (X + Y), by go_num, by first | rfl | (congr 1; omega), by omega, by omega, by omega, Lib.hid (by
                      by_cases c : nd ≤ X + Y
                      · obtain ⟨v, hv, he⟩ := HND.out; exact ⟨v, hv, by omega⟩
                      · exact ⟨u, by omega, by rw [HX2.out.1, HX2.out.2]; omega⟩), HB8⟩
                    case measure => first | (simp [intOf]; done) | (simp [intOf]; omega)
                  · obtain rfl : u = T + 1 := by omega
                    have hluI : ¬ ((T + 1 : Nat) : Int) < (T : Int) + 1 := by omega
                    have hluI2 : ¬ (T : Int) + 1 < (T : Int) + 1 := by omega
                    have HVt := Lib.hid (HM.out.2.1.call HW.out)
                    have HDt := Lib.hid (HM.out.2.2.call HW.out)
                    have HSO := Lib.hid HM.out.1
                    obtain ⟨hsl, hsr⟩ := HDt.out.sent (by omega) (fun j hj => by have := HSO.out.bd j hj; have := HAB.out (j : Int); exact ⟨by omega, by omega⟩)
                    obtain ⟨yx, x, hyx, hcx, _, hxd, _⟩ := row_get hsr (show T < T + 1 by omega)
                    cases hyx
                    rw [addr_add0] at hcx
                    have hxb : 0 ≤ x ∧ x ≤ 108 := by rw [← hxd]; have := HSO.out.bd T (by omega); have := HAB.out (T : Int); omega
                    obtain ⟨xb0, xb1⟩ := hxb
                    have HXD := Lib.hid hxd
                    have HCX := Lib.hid hcx
                    clear HM HW hsl hsr hcx hxd
                    -- what is sent in this tick
                    go_upto_region 27 with fail
                    go_cut [17] (fun s17 wx => ∃ now : Int, s17 = .int .i64 now ∧ x ≤ now ∧ nd ≤ now ∧ (now ≤ AT ∨ now ≤ x) ∧ Hid (SvB ww1 W.heap.size ra rn rc a1 i c1 lp Ff af nf cf zf pf jf Fh ah nh ch zh ph jh base wx ∧ SvD base (T + 1) i gs cs G ss (fun y => doneF (fun j => ss.getD j 0) (preS lp (y + 1)) T) wx))
                    case first =>
                      have A0 := Lib.hid (HVt.out.call (Below.refl _ _).drew)
                      have D0 := Lib.hid (HDt.out.call (Below.refl _ _).drew)
                      have KX := Lib.hid (show ∀ v, SvD base (T + 1) i gs cs G ss (fun y => doneF (fun j => ss.getD j 0) (preS lp (y + 1)) T) v → v.cell? ⟨gs, T, none⟩ = some (.int .i64 x) from fun v hv => by
                        obtain ⟨hsl, hsr⟩ := hv.sent (by omega) (fun j hj => by have := HSO.out.bd j hj; have := HAB.out (j : Int); exact ⟨by omega, by omega⟩)
                        obtain ⟨yx, hyx, hcx⟩ := hsr.cell T (by omega)
                        cases hyx
                        rw [addr_add0, HXD.out] at hcx
                        exact hcx)
                      have hwT : IntKind.i64.wrap (T : Int) = (T : Int) := IntWalk.i64_in _ ⟨by omega, by omega⟩
                      have hT1 : (T : Int) < (T : Int) + 1 := by omega
                      have hby := HBY.out ((T : Int) + 1) wu.drew A0.out.pk
                      rw [HAT.out] at hby
                      have HB0 := Lib.hid hby
                      have hba : Below wu.heap.size wu (wu.alloc (.cells #[.int .i64 0, .int .i64 0, .int .i64 3] 3)).drew := ((Below.refl _ _).alloc (Nat.le_refl _) _).drew
                      have A2 := Lib.hid (HVt.out.call hba)
                      have D2 := Lib.hid (HDt.out.call hba)
                      clear hba
                      have hby := HBY.out ((T : Int) + 1) _ A2.out.pk
                      rw [HAT.out] at hby
                      have HB2 := Lib.hid hby
                      have hne1 : ¬ wu.heap.size = W.heap.size := by have := HVt.out.hs; have := HVt.out.hw; omega
                      have HPK := Lib.hid (pick_of (fun v => v = 0 ∨ v = 3) (fun v hv => ⟨by omega, by omega⟩) wu.heap.size 3 3 (by omega) (by omega) W.heap.size hne1 ra rn rc _ (A2.out.src.at HS1.out) (fun i hi => by
                        have : i = 0 ∨ i = 1 ∨ i = 2 := by omega
                        rcases this with rfl | rfl | rfl
                        · exact ⟨_, cell_new13 (w := wu) rfl, .inl rfl⟩
                        · exact ⟨_, cell_new13 (w := wu) rfl, .inl rfl⟩
                        · exact ⟨_, cell_new13 (w := wu) rfl, .inr rfl⟩))
                      clear hby
                      refine wp_region_keeps (fun u => u.cell? ⟨gs, T, none⟩ = some (.int .i64 x)) 15 1 (by kernel_rfl) (by kernel_rfl) (KX.out _ D0.out) (fun hHeld0 => ?_)
                      refine wpAnyK_take (i := 0) (v := ?_) rfl (by kernel_rfl) (fun _ _ _ h => h) (Or.inl ⟨by rfl, ?_⟩) (by assumption) ?_
                      rotate_left
                      · (intro w hSw; (try dsimp only at hSw); go_simp; try with_reducible rfl)
                      try simp only [Act.put, List.getElem_toArray, List.getElem_cons_zero, List.getElem_cons_succ, List.setIfInBounds_toArray, List.set_cons_zero, List.set_cons_succ]
                      refine wpAnyK_take (i := 1) (v := ?_) rfl (by kernel_rfl) (fun _ _ _ h => h) (Or.inl ⟨by rfl, ?_⟩) (by assumption) ?_
                      rotate_left
                      · (intro w hSw; (try dsimp only at hSw); go_simp; try with_reducible rfl)
                      try simp only [Act.put, List.getElem_toArray, List.getElem_cons_zero, List.getElem_cons_succ, List.setIfInBounds_toArray, List.set_cons_zero, List.set_cons_succ]
                      refine wpAnyK_take (i := 2) (v := ?_) rfl (by kernel_rfl) (fun _ _ _ h => h) (Or.inl ⟨by rfl, ?_⟩) (by assumption) ?_
                      rotate_left
                      · (intro w hSw; (try dsimp only at hSw); go_simp; try with_reducible rfl)
                      try simp only [Act.put, List.getElem_toArray, List.getElem_cons_zero, List.getElem_cons_succ, List.setIfInBounds_toArray, List.set_cons_zero, List.set_cons_succ]
                      refine wpAnyK_take (i := 3) (v := ?_) rfl (by kernel_rfl) (fun _ _ _ h => h) (Or.inl ⟨by rfl, ?_⟩) (by assumption) ?_
                      rotate_left
                      · (intro w hSw; (try dsimp only at hSw); go_simp; try with_reducible rfl)
                      try simp only [Act.put, List.getElem_toArray, List.getElem_cons_zero, List.getElem_cons_succ, List.setIfInBounds_toArray, List.set_cons_zero, List.set_cons_succ]
                      refine wpAnyK_take (i := 4) (v := ?_) rfl (by kernel_rfl) (fun _ _ _ h => h) (Or.inl ⟨by rfl, ?_⟩) (by assumption) ?_
                      rotate_left
                      · (intro w hSw; (try dsimp only at hSw); go_simp; try with_reducible rfl)
                      try simp only [Act.put, List.getElem_toArray, List.getElem_cons_zero, List.getElem_cons_succ, List.setIfInBounds_toArray, List.set_cons_zero, List.set_cons_succ]
                      refine wpAnyK_take (i := 5) (v := ?_) rfl (by kernel_rfl) (fun _ _ _ h => h) (Or.inl ⟨by rfl, ?_⟩) (by assumption) ?_
                      rotate_left
                      · (intro w hSw; (try dsimp only at hSw); go_simp; try with_reducible rfl)
                      try simp only [Act.put, List.getElem_toArray, List.getElem_cons_zero, List.getElem_cons_succ, List.setIfInBounds_toArray, List.set_cons_zero, List.set_cons_succ]
                      refine wpAnyK_take (i := 6) (v := ?_) rfl (by kernel_rfl) (fun _ _ _ h => h) (Or.inl ⟨by rfl, ?_⟩) (by assumption) ?_
                      rotate_left
                      · (intro w hSw; (try dsimp only at hSw); go_simp; try with_reducible rfl)
                      try simp only [Act.put, List.getElem_toArray, List.getElem_cons_zero, List.getElem_cons_succ, List.setIfInBounds_toArray, List.set_cons_zero, List.set_cons_succ]
                      refine wpAnyK_take (i := 8) (v := ?_) rfl (by kernel_rfl) (fun _ _ _ h => h) (Or.inl ⟨by rfl, ?_⟩) (by assumption) ?_
                      rotate_left
                      · (intro w hSw; (try dsimp only at hSw); go_simp; try with_reducible rfl)
                      try simp only [Act.put, List.getElem_toArray, List.getElem_cons_zero, List.getElem_cons_succ, List.setIfInBounds_toArray, List.set_cons_zero, List.set_cons_succ]
                      refine wpAnyK_take (i := 9) (v := ?_) rfl (by kernel_rfl) (fun _ _ _ h => h) (Or.inl ⟨by rfl, ?_⟩) (by assumption) ?_
                      rotate_left
                      · (intro w hSw; (try dsimp only at hSw); go_simp; try with_reducible rfl)
                      try simp only [Act.put, List.getElem_toArray, List.getElem_cons_zero, List.getElem_cons_succ, List.setIfInBounds_toArray, List.set_cons_zero, List.set_cons_succ]
                      refine wpAnyK_two (i := 7) (j := 10) rfl rfl (by kernel_rfl) (fun K hK => ?_) (fun K hK => ?_)
                      · go_simp
                        with_reducible refine HB0.out.mono ?_
                        rintro e u1 ⟨rfl, rfl⟩
                        refine hK.out _ _ (KX.out _ D0.out) (fun hHeld1 => ?_)
                        clear hK K hHeld0
                        try simp only [Act.put, List.getElem_toArray, List.getElem_cons_zero, List.getElem_cons_succ, List.setIfInBounds_toArray, List.set_cons_zero, List.set_cons_succ]
                        refine wpAnyK_step (i := 10) rfl (by kernel_rfl) (fun K hK => ?_)
                        go_simp
                        refine hK.out _ _ (KX.out _ D2.out) (fun hHeld2 => ?_)
                        clear hK K hHeld1
                        try simp only [Act.put, List.getElem_toArray, List.getElem_cons_zero, List.getElem_cons_succ, List.setIfInBounds_toArray, List.set_cons_zero, List.set_cons_succ]
                        refine wpAnyK_step (i := 11) rfl (by kernel_rfl) (fun K hK => ?_)
                        go_simp
                        with_reducible refine (HPK.out).mono ?_
                        rintro e u3 ⟨z, hz, rfl, hs, he⟩
                        have A3 := Lib.hid (A2.out.take hs he)
                        have D3 := Lib.hid (D2.out.take he (Nat.lt_of_lt_of_le hbl (by have := A2.out.hw; exact this)))
                        have hz2 : 0 ≤ z ∧ z ≤ 3 := by omega
                        obtain ⟨hz0, hz3⟩ := hz2
                        have hwz : IntKind.i64.wrap (nd + z) = nd + z := IntWalk.i64_in _ ⟨by omega, by omega⟩
                        clear hs he hz
                        refine hK.out _ _ (KX.out _ D3.out) (fun hHeld7 => ?_)
                        clear hK K hHeld2
                        try simp only [Act.put, List.getElem_toArray, List.getElem_cons_zero, List.getElem_cons_succ, List.setIfInBounds_toArray, List.set_cons_zero, List.set_cons_succ]
                        refine wpAnyK_step (i := 12) rfl (by kernel_rfl) (fun K hK => ?_)
                        go_simp
                        refine hK.out _ _ (KX.out _ D3.out) (fun hHeld8 => ?_)
                        clear hK K hHeld7
                        try simp only [Act.put, List.getElem_toArray, List.getElem_cons_zero, List.getElem_cons_succ, List.setIfInBounds_toArray, List.set_cons_zero, List.set_cons_succ]
                        refine wpAnyK_step (i := 13) rfl (by kernel_rfl) (fun K hK => ?_)
                        go_simp
                        refine hK.out _ _ (KX.out _ D3.out) (fun hHeld9 => ?_)
                        clear hK K hHeld8
                        try simp only [Act.put, List.getElem_toArray, List.getElem_cons_zero, List.getElem_cons_succ, List.setIfInBounds_toArray, List.set_cons_zero, List.set_cons_succ]
                        refine wpAnyK_step (i := 14) rfl (by kernel_rfl) (fun K hK => ?_)
                        go_simp
                        refine hK.out _ _ (KX.out _ D3.out) (fun hHeld10 => ?_)
                        clear hK K hHeld9
                        try simp only [Act.put, List.getElem_toArray, List.getElem_cons_zero, List.getElem_cons_succ, List.setIfInBounds_toArray, List.set_cons_zero, List.set_cons_succ]
                        refine wpAnyK_done (by kernel_rfl) ?_
                        simp only [List.drop_succ_cons, List.drop_zero]
                        clear hHeld10
                        go_wp2_with fail
                        all_goals go_meet
                        all_goals (case rel => exact ⟨_, rfl, by first | omega | (split at * <;> omega), by first | omega | (split at * <;> omega), by first | omega | (split at * <;> omega), Lib.hid ⟨A3.out, D3.out⟩⟩)
                      · go_simp
                        refine hK.out _ _ (KX.out _ D2.out) (fun hHeld1 => ?_)
                        clear hK K hHeld0
                        try simp only [Act.put, List.getElem_toArray, List.getElem_cons_zero, List.getElem_cons_succ, List.setIfInBounds_toArray, List.set_cons_zero, List.set_cons_succ]
                        refine wpAnyK_step (i := 7) rfl (by kernel_rfl) (fun K hK => ?_)
                        go_simp
                        with_reducible refine HB2.out.mono ?_
                        rintro e u1 ⟨rfl, rfl⟩
                        refine hK.out _ _ (KX.out _ D2.out) (fun hHeld2 => ?_)
                        clear hK K hHeld1
                        try simp only [Act.put, List.getElem_toArray, List.getElem_cons_zero, List.getElem_cons_succ, List.setIfInBounds_toArray, List.set_cons_zero, List.set_cons_succ]
                        refine wpAnyK_step (i := 11) rfl (by kernel_rfl) (fun K hK => ?_)
                        go_simp
                        with_reducible refine (HPK.out).mono ?_
                        rintro e u3 ⟨z, hz, rfl, hs, he⟩
                        have A3 := Lib.hid (A2.out.take hs he)
                        have D3 := Lib.hid (D2.out.take he (Nat.lt_of_lt_of_le hbl (by have := A2.out.hw; exact this)))
                        have hz2 : 0 ≤ z ∧ z ≤ 3 := by omega
                        obtain ⟨hz0, hz3⟩ := hz2
                        have hwz : IntKind.i64.wrap (nd + z) = nd + z := IntWalk.i64_in _ ⟨by omega, by omega⟩
                        clear hs he hz
                        refine hK.out _ _ (KX.out _ D3.out) (fun hHeld7 => ?_)
                        clear hK K hHeld2
                        try simp only [Act.put, List.getElem_toArray, List.getElem_cons_zero, List.getElem_cons_succ, List.setIfInBounds_toArray, List.set_cons_zero, List.set_cons_succ]
                        refine wpAnyK_step (i := 12) rfl (by kernel_rfl) (fun K hK => ?_)
                        go_simp
                        refine hK.out _ _ (KX.out _ D3.out) (fun hHeld8 => ?_)
                        clear hK K hHeld7
                        try simp only [Act.put, List.getElem_toArray, List.getElem_cons_zero, List.getElem_cons_succ, List.setIfInBounds_toArray, List.set_cons_zero, List.set_cons_succ]
                        refine wpAnyK_step (i := 13) rfl (by kernel_rfl) (fun K hK => ?_)
                        go_simp
                        refine hK.out _ _ (KX.out _ D3.out) (fun hHeld9 => ?_)
                        clear hK K hHeld8
                        try simp only [Act.put, List.getElem_toArray, List.getElem_cons_zero, List.getElem_cons_succ, List.setIfInBounds_toArray, List.set_cons_zero, List.set_cons_succ]
                        refine wpAnyK_step (i := 14) rfl (by kernel_rfl) (fun K hK => ?_)
                        go_simp
                        refine hK.out _ _ (KX.out _ D3.out) (fun hHeld10 => ?_)
                        clear hK K hHeld9
                        try simp only [Act.put, List.getElem_toArray, List.getElem_cons_zero, List.getElem_cons_succ, List.setIfInBounds_toArray, List.set_cons_zero, List.set_cons_succ]
                        refine wpAnyK_done (by kernel_rfl) ?_
                        simp only [List.drop_succ_cons, List.drop_zero]
                        clear hHeld10
                        go_wp2_with fail
                        all_goals go_meet
                        all_goals (case rel => exact ⟨_, rfl, by first | omega | (split at * <;> omega), by first | omega | (split at * <;> omega), by first | omega | (split at * <;> omega), Lib.hid ⟨A3.out, D3.out⟩⟩)
                    case rest =>
                      obtain ⟨now, rfl, now0, now1, now2, HC⟩ := hcut
                      have HNX := Lib.hid (show SentOk lp F (T + 1 + 1) (ss ++ [now]) from by
                        refine HSO.out.next (nd := nd) (by omega) HAM.out nd0 ?_ ?_ now1 (by
                          obtain ⟨v, hv, he⟩ := HND.out; exact ⟨v, hv, he⟩)
                        · rw [show ((T + 1 : Nat) : Int) = (T : Int) + 1 by omega, HAT.out, Nat.add_sub_cancel, HXD.out]; exact now2
                        · rw [Nat.add_sub_cancel, HXD.out]; exact now0)
                      have hnb : 0 ≤ now ∧ now ≤ 108 := by omega
                      obtain ⟨nb0, nb1⟩ := hnb
                      have HV8 := Lib.hid (HC.out.1.call ((Below.refl wc.heap.size wc).alloc (Nat.le_refl _) (.cells #[.int .i64 now] 3)))
                      have HD8 := Lib.hid (HC.out.2.call ((Below.refl wc.heap.size wc).alloc (Nat.le_refl _) (.cells #[.int .i64 now] 3)))
                      have N8 : Hid (∀ j u, [Value.int .i64 now][j]? = some u → (wc.alloc (.cells #[.int .i64 now] 3)).cell? ((⟨wc.heap.size, 0, none⟩ : Addr).add j) = some u) := Lib.hid (World.news_of_block (cs := #[.int .i64 now]) (t := 3) (fr := (0, 0)) (heap_alloc_new wc _))
                      have hlt8 : base ≤ (wc.alloc (.cells #[.int .i64 now] 3)).heap.size := HV8.out.hs
                      go_wp2_with (at_builtin; refine wpList_append_lies _ rfl _ _ 22 rfl base 3 j0 (.int .i64 0) 1 8 Try.underlying22 hj hy0 hy1 hy2 rfl (by decide) (.slice (some ⟨gs, 0, none⟩) (T + 1) cs) (T + 1) (ss.map (Value.int .i64)) rfl HD8.out.own ⟨wc.heap.size, 0, none⟩ 1 1 [.int .i64 now] rfl rfl N8.out ?c2 (by omega) ?c3 ?c4 hlt8 _ rfl ?_)
                      case c2 => first | rfl | (intro u hu; simp at hu; subst hu; rfl)
                      case c3 => unfold maxLen; omega
                      case c4 => omega
                      intro g9 cap9 w9 hown' hgrow hat hlt9
                      have hrow : ∀ j, (Value.slice (some ⟨gs, 0, none⟩) (T + 1) cs).ownBlock = some j → base ≤ j := fun j hj => (HD8.out.own.lt j hj).1
                      have hbw : Below base (wc.alloc (.cells #[.int .i64 now] 3)) w9 := grownBy_below hgrow hrow hlt8
                      have HGne := Lib.hid (show g9 ≠ G from by
                        have hGl := HC.out.2.don.lt
                        rcases hatOf hat with rfl | h
                        · exact HC.out.2.ne
                        · rw [h]; simp; omega)
                      have HV9 := Lib.hid (HV8.out.keep hbw)
                      have HD9 := Lib.hid (show SvD base (T + 1 + 1) i g9 cap9 G (ss ++ [now]) (fun y => doneF (fun j => (ss ++ [now]).getD j 0) (preS lp (y + 1)) T) w9 from by
                        refine ⟨by rw [List.map_append]; exact hown', ?_, HGne.out, HC.out.2.hG⟩
                        have h1 : IntO w9 G i (fun y => doneF (fun j => ss.getD j 0) (preS lp (y + 1)) T) := HD8.out.don.of_block (hgrow.block _ HD8.out.don.lt (fun e => HC.out.2.ne (by
                          have e2 : (Value.slice (some ⟨gs, 0, none⟩) (T + 1) cs).ownBlock = some gs := rfl
                          rw [e2] at e; exact (Option.some.inj e).symm)))
                        exact h1.congr fun y hy => doneF_congr _ T fun t ht => by
                          show ss.getD t 0 = (ss ++ [now]).getD t 0
                          rw [getD_snoc_lt (by rw [HSO.out.len]; omega)])
                      have HNOW := Lib.hid (show (ss ++ [now]).getD (T + 1) 0 = now from getD_snoc_eq (by rw [HSO.out.len]))
                      obtain ⟨sn, hsn⟩ : ∃ l, ss ++ [now] = l := ⟨_, rfl⟩
                      rw [hsn] at HNX HD9 HNOW
                      clear hown' hgrow hat hlt9 hrow hbw hlt8 N8 HC HV8 HD8 hsn HGne
                      go_wp2_with fail
                      go_loopw [115, 18] (fun s115 s18 wx => ∃ y : Nat, s115 = .int .i64 y ∧ s18 = .int .i64 (preS lp y) ∧ y ≤ i ∧ Hid (SvB ww1 W.heap.size ra rn rc a1 i c1 lp Ff af nf cf zf pf jf Fh ah nh ch zh ph jh base wx ∧ SvD base (T + 1 + 1) i g9 cap9 G sn (fun z => if z < y then doneF (fun j => sn.getD j 0) (preS lp (z + 1)) (T + 1) else doneF (fun j => sn.getD j 0) (preS lp (z + 1)) T) wx)) (fun s115 _ _ => i - (intOf s115).toNat)
                      case atStart => exact ⟨0, by go_num, rfl, Nat.zero_le _, Lib.hid ⟨HV9.out, HD9.out.congr fun z hz => by rw [if_neg (Nat.not_lt_zero z)]⟩⟩
                      case round =>
                        obtain ⟨y, rfl, rfl, hy, HI⟩ := hrel
                        obtain ⟨wy, rfl⟩ : ∃ u : World, u = wr := ⟨_, rfl⟩
                        by_cases hlty : y < i
                        · have hltyI : (y : Int) < (i : Int) := by omega
                          obtain ⟨B, off, q, ha, hcs, hq, hbd⟩ := HI.out.1.pk.at hlty
                          obtain ⟨d0, d1, d2⟩ := hcs y q hq
                          have hqs : szI lp y = q.s := by unfold szI; rw [List.getD_eq_getElem?_getD, hq]; rfl
                          have hpp : preS lp (y + 1) = preS lp y + q.s := by rw [← hqs]; rfl
                          have hpb := HPB.out y (by omega)
                          have hpb1 := HPB.out (y + 1) (by omega)
                          rw [hpp] at hpb1
                          have HPP := Lib.hid hpp
                          obtain ⟨P, hP⟩ : ∃ P, preS lp y = P := ⟨_, rfl⟩
                          rw [hP] at hpb hpb1 HPP ⊢
                          obtain ⟨pb0, pb1⟩ := hpb
                          obtain ⟨pc0, pc1⟩ := hpb1
                          have hwp : IntKind.i64.wrap (P + q.s) = P + q.s := IntWalk.i64_in _ ⟨by omega, by omega⟩
                          have hgc := HI.out.2.don.cell hlty
                          rw [if_neg (Nat.lt_irrefl y), HPP.out] at hgc
                          have hgf := HI.out.2.don.frozen
                          obtain ⟨d, hd⟩ : ∃ d, doneF (fun j => sn.getD j 0) (P + q.s) T = d := ⟨_, rfl⟩
                          rw [hd] at hgc
                          have hst : doneF (fun j => sn.getD j 0) (P + q.s) (T + 1) = if P + q.s ≤ now ∧ d < 0 then (T : Int) else d := by rw [doneF_succ, hd, HNOW.out]
                          have HST := Lib.hid (And.intro hd hst)
                          have hwT : IntKind.i64.wrap (T : Int) = (T : Int) := IntWalk.i64_in _ ⟨by omega, by omega⟩
                          have HAA := Lib.hid ha
                          clear hcs hq hbd hqs hpp hP hd hst d0 d1
                          rw [ha]
                          clear ha
                          by_cases c1x : P + q.s ≤ now
                          · by_cases c2x : d < 0
                            · have HN := Lib.hid (show SvB ww1 W.heap.size ra rn rc a1 i c1 lp Ff af nf cf zf pf jf Fh ah nh ch zh ph jh base (wy.setCell ⟨G, y, none⟩ (.int .i64 (T : Int))) ∧ SvD base (T + 1 + 1) i g9 cap9 G sn (fun z => if z < y + 1 then doneF (fun j => sn.getD j 0) (preS lp (z + 1)) (T + 1) else doneF (fun j => sn.getD j 0) (preS lp (z + 1)) T) (wy.setCell ⟨G, y, none⟩ (.int .i64 (T : Int))) from
                                ⟨HI.out.1.keep ((Below.refl base wy).setCell (p := ⟨G, y, none⟩) HI.out.2.hG _), (HI.out.2.store hlty (T : Int)).congr fun z hz => by
                                  by_cases e : z = y
                                  · subst e; rw [if_pos rfl, if_pos (by omega), HPP.out, HST.out.2, if_pos ⟨c1x, c2x⟩]
                                  · rw [if_neg e]
                                    by_cases e2 : z < y
                                    · rw [if_pos e2, if_pos (by omega)]
                                    · rw [if_neg e2, if_neg (by omega)]⟩)
                              go_wp2_with fail
                              go_roundw
                              case rel => exact ⟨y + 1, by go_num, by rw [HPP.out], by omega, by first | exact HN | exact Lib.hid (by rw [← HAA.out]; exact HN.out)⟩
                              case measure => first | (simp [intOf]; done) | (simp [intOf]; omega)
                            · have HN := Lib.hid (show SvB ww1 W.heap.size ra rn rc a1 i c1 lp Ff af nf cf zf pf jf Fh ah nh ch zh ph jh base wy ∧ SvD base (T + 1 + 1) i g9 cap9 G sn (fun z => if z < y + 1 then doneF (fun j => sn.getD j 0) (preS lp (z + 1)) (T + 1) else doneF (fun j => sn.getD j 0) (preS lp (z + 1)) T) wy from
                                ⟨HI.out.1, HI.out.2.congr fun z hz => by
                                  by_cases e : z = y
                                  · subst e; rw [if_neg (Nat.lt_irrefl _), if_pos (by omega), HPP.out, HST.out.2, HST.out.1, if_neg (fun h => c2x h.2)]
                                  · by_cases e2 : z < y
                                    · rw [if_pos e2, if_pos (by omega)]
                                    · rw [if_neg e2, if_neg (by omega)]⟩)
                              go_wp2_with fail
                              go_roundw
                              case rel => exact ⟨y + 1, by go_num, by rw [HPP.out], by omega, by first | exact HN | exact Lib.hid (by rw [← HAA.out]; exact HN.out)⟩
                              case measure => first | (simp [intOf]; done) | (simp [intOf]; omega)
                          · have HN := Lib.hid (show SvB ww1 W.heap.size ra rn rc a1 i c1 lp Ff af nf cf zf pf jf Fh ah nh ch zh ph jh base wy ∧ SvD base (T + 1 + 1) i g9 cap9 G sn (fun z => if z < y + 1 then doneF (fun j => sn.getD j 0) (preS lp (z + 1)) (T + 1) else doneF (fun j => sn.getD j 0) (preS lp (z + 1)) T) wy from
                              ⟨HI.out.1, HI.out.2.congr fun z hz => by
                                by_cases e : z = y
                                · subst e; rw [if_neg (Nat.lt_irrefl _), if_pos (by omega), HPP.out, HST.out.2, HST.out.1, if_neg (fun h => c1x h.1)]
                                · by_cases e2 : z < y
                                  · rw [if_pos e2, if_pos (by omega)]
                                  · rw [if_neg e2, if_neg (by omega)]⟩)
                            go_wp2_with fail
                            go_roundw
                            case rel => exact ⟨y + 1, by go_num, by rw [HPP.out], by omega, by first | exact HN | exact Lib.hid (by rw [← HAA.out]; exact HN.out)⟩
                            case measure => first | (simp [intOf]; done) | (simp [intOf]; omega)
                        · obtain rfl : y = i := by omega
                          have hltyI : ¬ (y : Int) < (y : Int) := by omega
                          have HN := Lib.hid (show SentOk lp F (T + 1 + 1) sn ∧ SvB ww1 W.heap.size ra rn rc a1 y c1 lp Ff af nf cf zf pf jf Fh ah nh ch zh ph jh base wy ∧ SvD base (T + 1 + 1) y g9 cap9 G sn (fun z => doneF (fun j => sn.getD j 0) (preS lp (z + 1)) (T + 1)) wy from
                            ⟨HNX.out, HI.out.1, HI.out.2.congr fun z hz => by rw [if_pos hz]⟩)
                          go_wp2_with fail
                          go_roundw
                          case rel => exact ⟨T + 1, g9, cap9, sn, by go_num, by first | rfl | go_num, by omega, HN⟩
                          case measure => first | (simp [intOf]; done) | (simp [intOf]; omega)
              · obtain rfl : T = 199 := by omega
                have hltI : ¬ ((199 : Nat) : Int) + 1 < 200 := by omega
                have hltI2 : ¬ (199 : Int) + 1 < 200 := by omega
                have hltI3 : ¬ (200 : Int) < 200 := by omega
                obtain ⟨S, hS⟩ : ∃ S : Nat → Int, (fun j => ss.getD j 0) = S := ⟨_, rfl⟩
                rw [hS] at HM
                obtain ⟨D, hD⟩ : ∃ D : List Int, (List.range i).map (fun y => doneF S (preS lp (y + 1)) 199) = D := ⟨_, rfl⟩
                have hDl : D.length = i := by rw [← hD]; simp
                have hDa : ∀ y, y < i → D.getD y 0 = doneF S (preS lp (y + 1)) 199 := fun y hy => by
                  rw [← hD, List.getD_eq_getElem?_getD, List.getElem?_map, List.getElem?_range hy]; rfl
                have HSO := Lib.hid (show (∀ j : Nat, j < 200 → 0 ≤ S j ∧ S j ≤ arrT lp (j : Int)) ∧ (∀ j : Nat, j < 199 → S j ≤ S (j + 1)) ∧ (∀ j : Nat, j < 200 → ∃ u : Nat, u ≤ j ∧ arrT lp (u : Int) + F (j - u) ≤ S j) ∧ S 0 = 0 from by
                  have h := HM.out.1
                  have hg : ∀ j, ss.getD j 0 = S j := fun j => congrFun hS j
                  exact ⟨fun j hj => by rw [← hg]; exact h.bd j hj, fun j hj => by rw [← hg, ← hg]; exact h.mono j (by omega), fun j hj => by rw [← hg]; exact h.need j hj, by rw [← hg]; exact h.zero⟩)
                have HDI := Lib.hid (show ∀ (y : Nat) (t : Nat), y < i → 1 ≤ t → t ≤ 199 → ((0 ≤ D.getD y 0 ∧ D.getD y 0 + 1 ≤ (t : Int)) ↔ preS lp (y + 1) ≤ S t) from fun y t hy h1 h2 => by
                  rw [hDa y hy]; exact doneF_iff _ 199 (fun t ht => HSO.out.2.1 t ht) t h1 h2)
                have HDR := Lib.hid (show ∀ y, y < i → -1 ≤ D.getD y 0 ∧ D.getD y 0 ≤ 198 from fun y hy => by
                  rw [hDa y hy]; have := doneF_bd S (preS lp (y + 1)) 199; omega)
                have hcode : dcode lp D = 0 := dcode_zero HVC.out (by rw [hDl, HLEN.out]) (fun y hy => by
                  rw [HLEN.out] at hy
                  have h1 := HDR.out y hy
                  by_cases c : D.getD y 0 = -1
                  · exact .inl c
                  · obtain ⟨t, ht⟩ : ∃ t : Nat, D.getD y 0 + 1 = (t : Int) := ⟨(D.getD y 0 + 1).toNat, by omega⟩
                    have h2 := (HDI.out y t hy (by omega) (by omega)).1 ⟨by omega, by omega⟩
                    have h3 := (HSO.out.1 t (by omega)).2
                    have h4 := done_late HASC.out (fun j hj => (HSM.out j hj).1) HS0.out (i := y) (by rw [HLEN.out]; exact hy) (t := (t : Int)) (Int.le_trans h2 h3)
                    exact .inr ⟨by omega, by omega⟩)
                have HC := Lib.hid hcode
                have HRD := Lib.hid (show RowZ wt (some ⟨G, 0, none⟩) i i D from HM.out.2.2.don.row (Nat.le_refl _) (by omega) (by omega) hDl (fun y hy => hDa y hy) (fun y hy => by rw [← hDa y hy]; have := HDR.out y hy; exact ⟨by omega, by omega⟩))
                have hF := forward15 a1 i c1 lp (some ⟨G, 0, none⟩) i i D _ HM.out.2.1.pk HRD.out
                rw [hcode] at hF
                have HFW := Lib.hid hF
                -- what is forwarded, tick by tick
                obtain ⟨v, hvv⟩ : ∃ v : Nat → Int, (fun t : Nat => bytW (t : Int) (sel (-1) (fwdP lp D))) = v := ⟨_, rfl⟩
                have HVV := Lib.hid (fun t : Nat => congrFun hvv t)
                have HSRV := Lib.hid (show ∀ t : Nat, t < 200 → ∃ u : Nat, u ≤ t ∧ arrT lp (u : Int) + atC zh ph jh (t - u) ≤ v t from fun t ht => by
                  have hb := HVV.out t
                  try dsimp only at hb
                  rw [fwd_byt hcode] at hb
                  rcases Nat.eq_zero_or_pos t with h0 | h0
                  · subst h0
                    refine ⟨0, Nat.le_refl _, ?_⟩
                    rw [Nat.sub_self, HHV.out, if_pos rfl, show ((0 : Nat) : Int) = 0 from rfl, HA0.out, ← hb]
                    exact sumI_nn _ fun y _ => by have := HS0.out y; (try dsimp only); split <;> omega
                  · obtain ⟨s, rfl⟩ : ∃ s, t = s + 1 := ⟨t - 1, by omega⟩
                    have he : v (s + 1) = sumI (fun y => if preS lp (y + 1) ≤ S s then szI lp y else 0) lp.length := by
                      rw [← hb]
                      refine sumI_congr _ fun y hy => ?_
                      rw [HLEN.out] at hy
                      rcases Nat.eq_zero_or_pos s with h1 | h1
                      · subst h1
                        have h2 := (HSM.out y (by rw [HLEN.out]; exact hy)).1
                        have h3 : preS lp (y + 1) = preS lp y + szI lp y := rfl
                        have h4 := (HPB.out y (by omega)).1
                        rw [if_neg (by omega), if_neg (by rw [HSO.out.2.2.2]; omega)]
                      · have h2 := HDI.out y s hy h1 (by omega)
                        by_cases c : preS lp (y + 1) ≤ S s
                        · rw [if_pos c, if_pos (by have := h2.2 c; omega)]
                        · rw [if_neg c, if_neg (fun x => c (h2.1 ⟨x.1, by omega⟩))]
                    obtain ⟨u, hu, hle⟩ := hop_serves (F := F) (most := mo) (b := S s) (t := s) HASC.out HSM.out HS0.out HFB.out.1 (HSO.out.1 s (by omega)).1 (HSO.out.2.2.1 s (by omega))
                    refine ⟨u, hu, ?_⟩
                    rw [he, HHV.out]
                    exact hle)
                have HVt := Lib.hid HM.out.2.1
                clear hS hD hDl hDa hcode hF hvv HM HSO HDI HDR
                go_wp2_with fail
                refine HFW.out.mono ?_
                rintro e w3 ⟨b1, m1, e1, b2, m2, e2, rfl, hb3, hp3, hz3, _, _⟩
                have HV3 := Lib.hid (HVt.out.call hb3)
                have HP3 := Lib.hid hp3
                clear hb3 hp3 hz3 HVt
                go_wp2_with fail
                go_loopw [23] (fun s23 wx => ∃ t : Nat, s23 = .int .i64 t ∧ t ≤ 200 ∧ Hid (Below w3.heap.size w3 wx)) (fun s23 _ => 200 - (intOf s23).toNat)
                case atStart => exact ⟨0, by go_num, Nat.zero_le _, Below.refl _ _⟩
                case round =>
                  obtain ⟨t, rfl, ht, HW⟩ := hrel
                  obtain ⟨wq, rfl⟩ : ∃ u : World, u = wr := ⟨_, rfl⟩
                  by_cases hlt : t < 200
                  · have hltI : (t : Int) < 200 := by omega
                    go_wp2_with fail
                    go_loopw [25, 24] (fun s25 s24 wx => ∃ (u : Nat) (ls : Int), s25 = .int .i64 u ∧ s24 = .int .i64 ls ∧ u ≤ t + 1 ∧ Hid (∀ y, y < u → ls ≤ arrT lp (y : Int) + atC zh ph jh (t - y)) ∧ Hid (Below w3.heap.size w3 wx)) (fun s25 _ _ => t + 1 - (intOf s25).toNat)
                    case atStart => exact ⟨0, _, by go_num, rfl, Nat.zero_le _, Lib.hid (fun y hy => absurd hy (Nat.not_lt_zero _)), HW⟩
                    case round =>
                      obtain ⟨u, ls, rfl, rfl, hu, HLS, HWu⟩ := hrel
                      obtain ⟨wu, rfl⟩ : ∃ x : World, x = wr := ⟨_, rfl⟩
                      by_cases hlu : u < t + 1
                      · have hluI : (u : Int) ≤ (t : Int) := by omega
                        obtain ⟨X, hX⟩ : ∃ v, arrT lp (u : Int) = v := ⟨_, rfl⟩
                        obtain ⟨Y, hY⟩ : ∃ v, atC zh ph jh (t - u) = v := ⟨_, rfl⟩
                        have HX2 := Lib.hid (And.intro hX hY)
                        have hX2 : 0 ≤ X ∧ X ≤ 108 := by rw [← hX]; exact HAB.out _
                        have hY2 : 0 ≤ Y ∧ Y ≤ 1073741824 * 300 := by
                          rw [← hY, HHV.out]
                          by_cases e : t - u = 0
                          · rw [if_pos e]; omega
                          · rw [if_neg e]; have h1 := HFB.out.1 (t - u - 1); have h2 := HFB.out.2.1 (t - u - 1); omega
                        obtain ⟨xx0, xx1⟩ := hX2
                        obtain ⟨yy0, yy1⟩ := hY2
                        have hwr : IntKind.i64.wrap ((t : Int) - (u : Int)) = (t : Int) - (u : Int) := IntWalk.i64_in _ ⟨by omega, by omega⟩
                        have hwx : IntKind.i64.wrap (X + Y) = X + Y := IntWalk.i64_in _ ⟨by omega, by omega⟩
                        have HBd := Lib.hid (show Below w3.heap.size w3 wu.drew from HWu.out.trans (Below.refl _ wu).drew)
                        have HVd := Lib.hid (HV3.out.call HBd.out)
                        have HKF := Lib.hid (show ∀ v, Below w3.heap.size w3 v → (v.cell? ⟨Fh, 0, none⟩ = some (.slice ah nh ch) ∧ v.cell? ⟨Fh, 1, none⟩ = some (.int .i64 ph) ∧ v.cell? ⟨Fh, 2, none⟩ = some (.int .i64 jh)) from fun v hv => by
                          obtain ⟨x0, x1, x2, _, _, _⟩ := (HV3.out.call hv).bh
                          exact ⟨x0, x1, x2⟩)
                        have hby := rbytes13 a1 i c1 lp (-1) (u : Int) (arrT lp (u : Int)) (arr_byt HVC.out _) wu.drew HVd.out.pk
                        rw [hX] at hby
                        have HBT := Lib.hid hby
                        have HATC := Lib.hid (show ∀ w, RowZ w ah nh ch zh → Calls Try.prog 59 #[curV ah nh ch ph jh, .int .i64 ((t : Int) - (u : Int))] w (Says (.int .i64 Y) w) from fun w h => rat_at ah nh ch zh ph jh FH.out.1 ((t : Int) - (u : Int)) (t - u) (by omega) (by omega) Y hY w h)
                        clear hX hY hby
                        go_upto_region 47 with fail
                        refine wp_region_keeps (fun u => u.cell? ⟨Fh, 0, none⟩ = some (.slice ah nh ch) ∧ u.cell? ⟨Fh, 1, none⟩ = some (.int .i64 ph) ∧ u.cell? ⟨Fh, 2, none⟩ = some (.int .i64 jh)) 11 1 (by kernel_rfl) (by kernel_rfl) (HKF.out _ HBd.out) (fun hHeld0 => ?_)
                        refine wpAnyK_take (i := 0) (v := ?_) rfl (by kernel_rfl) (fun _ _ _ h => h) (Or.inl ⟨by rfl, ?_⟩) (by assumption) ?_
                        rotate_left
                        · (intro w hSw; (try dsimp only at hSw); go_simp; try with_reducible rfl)
                        try simp only [Act.put, List.getElem_toArray, List.getElem_cons_zero, List.getElem_cons_succ, List.setIfInBounds_toArray, List.set_cons_zero, List.set_cons_succ]
                        refine wpAnyK_take (i := 1) (v := ?_) rfl (by kernel_rfl) (fun _ _ _ h => h) (Or.inl ⟨by rfl, ?_⟩) (by assumption) ?_
                        rotate_left
                        · (intro w hSw; (try dsimp only at hSw); go_simp; try with_reducible rfl)
                        try simp only [Act.put, List.getElem_toArray, List.getElem_cons_zero, List.getElem_cons_succ, List.setIfInBounds_toArray, List.set_cons_zero, List.set_cons_succ]
                        refine wpAnyK_take (i := 2) (v := ?_) rfl (by kernel_rfl) (fun _ _ _ h => h) (Or.inl ⟨by rfl, ?_⟩) (by assumption) ?_
                        rotate_left
                        · (intro w hSw; (try dsimp only at hSw); go_simp; try with_reducible rfl)
                        try simp only [Act.put, List.getElem_toArray, List.getElem_cons_zero, List.getElem_cons_succ, List.setIfInBounds_toArray, List.set_cons_zero, List.set_cons_succ]
                        refine wpAnyK_take (i := 4) (v := ?_) rfl (by kernel_rfl) (fun _ _ _ h => h) (Or.inl ⟨by rfl, ?_⟩) (by assumption) ?_
                        rotate_left
                        · (intro w hSw; (try dsimp only at hSw); go_simp; try with_reducible rfl)
                        try simp only [Act.put, List.getElem_toArray, List.getElem_cons_zero, List.getElem_cons_succ, List.setIfInBounds_toArray, List.set_cons_zero, List.set_cons_succ]
                        refine wpAnyK_take (i := 5) (v := ?_) rfl (by kernel_rfl) (fun _ _ _ h => h) (Or.inl ⟨by rfl, ?_⟩) (by assumption) ?_
                        rotate_left
                        · (intro w hSw; (try dsimp only at hSw); go_simp; try with_reducible rfl)
                        try simp only [Act.put, List.getElem_toArray, List.getElem_cons_zero, List.getElem_cons_succ, List.setIfInBounds_toArray, List.set_cons_zero, List.set_cons_succ]
                        refine wpAnyK_take (i := 6) (v := ?_) rfl (by kernel_rfl) (fun _ _ _ h => h) (Or.inl ⟨by rfl, ?_⟩) (by assumption) ?_
                        rotate_left
                        · (intro w hSw; (try dsimp only at hSw); go_simp; try with_reducible rfl)
                        try simp only [Act.put, List.getElem_toArray, List.getElem_cons_zero, List.getElem_cons_succ, List.setIfInBounds_toArray, List.set_cons_zero, List.set_cons_succ]
                        refine wpAnyK_take (i := 7) (v := ?_) rfl (by kernel_rfl) (fun _ _ _ h => h) (Or.inl ⟨by rfl, ?_⟩) (by assumption) ?_
                        rotate_left
                        · (intro w hSw; (try dsimp only at hSw); go_simp; try with_reducible rfl)
                        try simp only [Act.put, List.getElem_toArray, List.getElem_cons_zero, List.getElem_cons_succ, List.setIfInBounds_toArray, List.set_cons_zero, List.set_cons_succ]
                        refine wpAnyK_step (i := 3) rfl (by kernel_rfl) (fun K hK => ?_)
                        go_simp
                        with_reducible refine (HBT.out).mono ?_
                        rintro e u1 ⟨rfl, rfl⟩

                        refine hK.out _ _ (HKF.out _ HBd.out) (fun hHeld1 => ?_)
                        clear hK K hHeld0
                        try simp only [Act.put, List.getElem_toArray, List.getElem_cons_zero, List.getElem_cons_succ, List.setIfInBounds_toArray, List.set_cons_zero, List.set_cons_succ]
                        refine wpAnyK_step (i := 8) rfl (by kernel_rfl) (fun K hK => ?_)
                        go_simp
                        with_reducible refine (HATC.out _ HVd.out.rh).mono ?_
                        rintro e u2 ⟨rfl, hb8⟩
                        have HB8 := Lib.hid (HBd.out.trans (hb8.mono HBd.out.size))
                        clear hb8
                        refine hK.out _ _ (HKF.out _ HB8.out) (fun hHeld2 => ?_)
                        clear hK K hHeld1
                        try simp only [Act.put, List.getElem_toArray, List.getElem_cons_zero, List.getElem_cons_succ, List.setIfInBounds_toArray, List.set_cons_zero, List.set_cons_succ]
                        refine wpAnyK_step (i := 9) rfl (by kernel_rfl) (fun K hK => ?_)
                        go_simp
                        refine hK.out _ _ (HKF.out _ HB8.out) (fun hHeld3 => ?_)
                        clear hK K hHeld2
                        try simp only [Act.put, List.getElem_toArray, List.getElem_cons_zero, List.getElem_cons_succ, List.setIfInBounds_toArray, List.set_cons_zero, List.set_cons_succ]
                        refine wpAnyK_step (i := 10) rfl (by kernel_rfl) (fun K hK => ?_)
                        go_simp
                        refine hK.out _ _ (HKF.out _ HB8.out) (fun hHeld4 => ?_)
                        clear hK K hHeld3
                        try simp only [Act.put, List.getElem_toArray, List.getElem_cons_zero, List.getElem_cons_succ, List.setIfInBounds_toArray, List.set_cons_zero, List.set_cons_succ]
                        refine wpAnyK_done (by kernel_rfl) ?_
                        simp only [List.drop_succ_cons, List.drop_zero]
                        clear hHeld4
                        go_wp2_with fail
                        go_roundw
                        case rel => exact ⟨u + 1, min ls (X + Y), by go_num, by first | rfl | (congr 1; omega), by omega, Lib.hid (fun y hy => by
                          by_cases e : y = u
                          · subst e; rw [HX2.out.1, HX2.out.2]; omega
                          · have := HLS.out y (by omega); omega), HB8⟩
                        case measure => first | (simp [intOf]; done) | (simp [intOf]; omega)
                      · obtain rfl : u = t + 1 := by omega
                        have hluI : ¬ ((t + 1 : Nat) : Int) ≤ (t : Int) := by omega
                        have hluI2 : ¬ (t : Int) + 1 ≤ (t : Int) := by omega
                        obtain ⟨vt, hvt⟩ : ∃ x, v t = x := ⟨_, rfl⟩
                        have hvl : ¬ vt < ls := by
                          obtain ⟨y, hy, hle⟩ := HSRV.out t hlt
                          have := HLS.out y (by omega)
                          rw [hvt] at hle
                          omega
                        have hbb := bytes13 b1 m1 e1 (fwdP lp D) (-1) (t : Int) vt (by rw [← hvt]; exact HVV.out t) wu (HP3.out.under HWu.out)
                        have HBB := Lib.hid hbb
                        clear hvt hbb HLS
                        go_wp2_with fail
                        refine HBB.out.mono ?_
                        rintro e w6 ⟨rfl, hb6⟩
                        have HW6 := Lib.hid (HWu.out.trans (hb6.mono HWu.out.size))
                        clear hb6
                        go_wp2_with fail
                        go_roundw
                        case rel => exact ⟨t + 1, by go_num, by omega, HW6⟩
                        case measure => first | (simp [intOf]; done) | (simp [intOf]; omega)
                  · obtain rfl : t = 200 := by omega
                    have hltI : ¬ ((200 : Nat) : Int) < 200 := by omega
                    have HVq := Lib.hid (HV3.out.call HW.out)
                    have HDH := Lib.hid (show Day (eC zh ph jh) from by
                      refine Day.of (E := eHop (mo - 1) zf pf jf) ?_ FH.out.2.1
                      refine day_hop (day_lower HDAY.out (mo - 1)) (fun t => ?_)
                      rw [eHop_succ]
                      unfold eLower
                      cases eC zf pf jf t with
                      | none => exact (omax_none_l _).symm
                      | some y => rfl)
                    obtain ⟨x0, x1, x2, _, _, _⟩ := HVq.out.bf
                    obtain ⟨y0, y1, y2, _, _, _⟩ := HVq.out.bh
                    have hof := rof7_day af nf cf zf pf jf GF.out.1 ah nh ch zh ph jh FH.out.1 HDAY.out HDH.out wq HVq.out.rf HVq.out.rh
                    have HOF := Lib.hid hof
                    clear hof
                    go_wp2_with fail
                    refine HOF.out.mono ?_
                    rintro e w7 ⟨hb7, ⟨a7, n7, c7, z7, p7, i7, rfl, _, _, _⟩ | ⟨rfl, _⟩⟩
                    · have HV7 := Lib.hid ((HVq.out.call hb7).call ((Below.refl _ _).alloc (Nat.le_refl _) (.cells #[.slice a7 n7 c7, .int .i64 p7, .int .i64 i7] 24)))
                      clear hb7 x0 x1 x2 y0 y1 y2
                      go_wp2_with fail
                      refine (awake15 _).mono ?_
                      rintro e w8 ⟨rfl, hb8⟩
                      have HV8 := Lib.hid (HV7.out.call hb8)
                      clear hb8
                      go_wp2_with fail
                      go_ret
                      exact ⟨rfl, HB1.out.trans (HV8.out.src.ap.below (Nat.le_refl _) HB1.out.size)⟩
                    · have HV7 := Lib.hid ((HVq.out.call hb7).call ((Below.refl _ _).alloc (Nat.le_refl _) (.cells #[.slice none 0 0, .int .i64 0, .int .i64 0] 24)))
                      clear hb7 x0 x1 x2 y0 y1 y2
                      go_wp2_with fail
                      refine (awake15 _).mono ?_
                      rintro e w8 ⟨rfl, hb8⟩
                      have HV8 := Lib.hid (HV7.out.call hb8)
                      clear hb8
                      go_wp2_with fail
                      go_ret
                      exact ⟨rfl, HB1.out.trans (HV8.out.src.ap.below (Nat.le_refl _) HB1.out.size)⟩
end Go.Proofs.Ythljhddnfflpjaa
