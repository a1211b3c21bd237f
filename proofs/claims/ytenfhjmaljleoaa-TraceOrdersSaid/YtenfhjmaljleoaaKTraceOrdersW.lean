/- The walk of TraceOrders. By the verifier's side. -/
import Derived.Test.YtenfhjmaljleoaaKTrV
import Derived.Test.YtenfhjmaljleoaaKTrW
import Derived.Deep.AppendLies
namespace Go.Proofs.Ytenfhjmaljleoaa
open Go.RowKit
set_option linter.unusedSimpArgs false
set_option linter.unusedVariables false

theorem PkR.apart {u v : World} {a : Option Addr} {n cap b : Nat} {l : List Pk} (h : PkR u a n cap l) (ha : Apart b u v) (hb : ∀ x, a = some x → ¬ x.block = b) : PkR v a n cap l :=
  ⟨h.len, h.le, h.sm, h.cm, h.place.imp id fun ⟨B, off, he, hc⟩ => ⟨B, off, he, hc.apart ha (hb _ he)⟩, h.bd⟩
theorem pkR_of_owns {w : World} {base n : Nat} {v : Value} {l : List Pk} (h : w.ownsRow base 47 3 v n (pkV l)) (hn : n ≤ 1000000) (hb : ∀ q ∈ l, Pk64 q) : ∃ a cap, v = .slice a n cap ∧ l.length = n ∧ PkR w a n cap l ∧ ∀ x, a = some x → base ≤ x.block := by
  obtain ⟨hl, a, c, hv, h1, h2, h3, h4⟩ := pkO_of_owns h
  refine ⟨a, c, hv, hl, ⟨hl, h1, hn, h2, ?_, hb⟩, h3⟩
  rcases h4 with ⟨_, h0⟩ | ⟨g, ha, _, ho⟩
  · exact .inl ⟨h0, fun _ _ => trivial⟩
  · exact .inr ⟨g, 0, ha, ho.cells⟩
theorem Hld13.below {w u v : World} {b : Nat} {a : Option Addr} {n cap : Nat} (h : Hld13 w b a n cap u) (hb : Below u.heap.size u v) : Hld13 w b a n cap v := by
  obtain ⟨k, hk, hs⟩ := h.src
  exact ⟨⟨k, hk, (hb.block b h.lt).trans hs⟩, h.ap.trans (below_apart hb)⟩
/-- The packets of a time among the first i. -/
def flt (t : Int) (l : List Pk) (i : Nat) : List Pk := (l.take i).filter (fun q => q.t == t)
theorem flt_yes {t : Int} {l : List Pk} {i : Nat} {q : Pk} (h : l[i]? = some q) (e : q.t = t) : flt t l (i + 1) = flt t l i ++ [q] := by
  unfold flt; rw [List.take_add_one, h, List.filter_append]; simp [e]
theorem flt_no {t : Int} {l : List Pk} {i : Nat} {q : Pk} (h : l[i]? = some q) (e : ¬ q.t = t) : flt t l (i + 1) = flt t l i := by
  unfold flt; rw [List.take_add_one, h, List.filter_append]; simp [e]
theorem flt_all (t : Int) (l : List Pk) : flt t l l.length = l.filter (fun q => q.t == t) := by unfold flt; rw [List.take_length]
theorem flt_mem {t : Int} {l : List Pk} {i : Nat} {q : Pk} (h : q ∈ flt t l i) : q ∈ l := List.mem_of_mem_take (List.mem_filter.1 h).1
theorem flt_len (t : Int) (l : List Pk) (i : Nat) : (flt t l i).length ≤ i := by
  unfold flt; exact Nat.le_trans (List.length_filter_le _ _) (by rw [List.length_take]; omega)
/-- Two lists of packets that grow, in blocks of their own. -/
structure TwoR (base : Nat) (v1 : Value) (l1 : List Pk) (v2 : Value) (l2 : List Pk) (w : World) : Prop where
  r1 : w.ownsRow base 47 3 v1 l1.length (pkV l1)
  r2 : w.ownsRow base 47 3 v2 l2.length (pkV l2)
  ne : ∀ j, v1.ownBlock = some j → ¬ v2.ownBlock = some j
theorem TwoR.start (base : Nat) (w : World) : TwoR base (.slice none 0 0) [] (.slice none 0 0) [] w := ⟨World.ownsRow_nil _ _ _ _, World.ownsRow_nil _ _ _ _, fun j h => by cases h⟩
theorem TwoR.swap {base : Nat} {v1 v2 : Value} {l1 l2 : List Pk} {w : World} (h : TwoR base v1 l1 v2 l2 w) : TwoR base v2 l2 v1 l1 w := ⟨h.r2, h.r1, fun j h1 h2 => h.ne j h2 h1⟩
theorem owns_grown13 {base n : Nat} {v : Value} {xs : List Value} {u w : World} {row : Option Nat} (h : u.ownsRow base 47 3 v n xs) (hg : u.grownBy w row) (hr : ∀ j, v.ownBlock = some j → ¬ row = some j) : w.ownsRow base 47 3 v n xs := by
  obtain ⟨hl, hrr⟩ := h
  refine ⟨hl, ?_⟩
  rcases hrr with h0 | ⟨g, cap, cur, hv, hbase, hgc, h1, h2, h3, h4⟩
  · exact .inl h0
  · have hlt : g < u.heap.size := (Array.getElem?_eq_some_iff.1 hgc).1
    have hne := hr g (by rw [hv]; rfl)
    exact .inr ⟨g, cap, cur, hv, hbase, (hg.block g hlt (fun e => hne e.symm)).trans hgc, h1, h2, h3, h4⟩
theorem TwoR.put {base g cap : Nat} {v1 v2 : Value} {l1 l2 : List Pk} {q : Pk} {u w : World} (h : TwoR base v1 l1 v2 l2 u) (hown : w.ownsRow base 47 3 (.slice (some ⟨g, 0, none⟩) (l1.length + 1) cap) (l1.length + 1) (pkV l1 ++ [.int .i64 q.f, .int .i64 q.t, .int .i64 q.s]))
    (hg : u.grownBy w v1.ownBlock) (hat : v1.ownBlock = some g ∨ g = u.heap.size) : TwoR base (.slice (some ⟨g, 0, none⟩) (l1.length + 1) cap) (l1 ++ [q]) v2 l2 w :=
  ⟨by rw [List.length_append, pkV_append]; exact hown, owns_grown13 h.r2 hg (fun j h1 h2 => h.ne j h2 h1), fun j hj h2 => by
    have e : g = j := Option.some.inj hj
    subst e
    rcases hat with c | c
    · exact h.ne g c h2
    · have := (h.r2.lt g h2).2; omega⟩
theorem TwoR.alloc {base : Nat} {v1 v2 : Value} {l1 l2 : List Pk} {w : World} (h : TwoR base v1 l1 v2 l2 w) (o : Obj) : TwoR base v1 l1 v2 l2 (w.alloc o) := ⟨h.r1.alloc o, h.r2.alloc o, h.ne⟩
theorem news13 (w : World) (q : Pk) (t : TypeId) : ∀ j u, ([.int .i64 q.f, .int .i64 q.t, .int .i64 q.s] : List Value)[j]? = some u → (w.alloc (.cells #[.int .i64 q.f, .int .i64 q.t, .int .i64 q.s] t)).cell? ((⟨w.heap.size, 0, none⟩ : Addr).add j) = some u := fun j u hj => by
  have ea : ((⟨w.heap.size, 0, none⟩ : Addr).add j) = ⟨w.heap.size, j, none⟩ := by unfold Addr.add; split <;> simp_all
  rw [ea]
  have hq3 : j < 3 := (List.getElem?_eq_some_iff.1 hj).1
  rcases j with _ | _ | _ | j
  · cases hj; exact cell_new13 rfl
  · cases hj; exact cell_new13 rfl
  · cases hj; exact cell_new13 rfl
  · omega
theorem ones13 (q : Pk) : ∀ u ∈ ([.int .i64 q.f, .int .i64 q.t, .int .i64 q.s] : List Value), u.oneCell' = true := fun u hu => by
  simp only [List.mem_cons, List.not_mem_nil, or_false] at hu; rcases hu with rfl | rfl | rfl <;> rfl
theorem sel_all (l : List Pk) : sel (-1) l = l := by
  unfold sel; exact List.filter_eq_self.2 (fun q _ => by unfold ofFlow; simp)
theorem bytW_late (t d : Int) (l : List Pk) : bytW (t + d) (sel (-1) (l.map (lateP d))) = bytW t (sel (-1) l) := by
  rw [sel_all, sel_all]
  unfold bytW
  congr 1
  induction l with
  | nil => rfl
  | cons q r ih =>
    show bytT (t + d) (lateP d q) + sumG _ _ = bytT t q + sumG _ _
    rw [ih]
    congr 1
    unfold bytT lateP
    have e : (q.t + d < t + d) ↔ q.t < t := by omega
    simp only [e]

set_option maxRecDepth 100000 in
set_option maxHeartbeats 6400000 in
theorem traceOrders_walk (W : World) (a : Option Addr) (n cap : Nat) (hrow : RowAt W a n cap) (at0 : Int) (hat : In64 at0) :
    Calls Try.prog 5 #[.slice a n cap, .int .i64 at0] W fun e w' => e = .returned (.bool true) ∧ Below W.heap.size W w' := by
  obtain ⟨i0, hi, hz0, hz1, hz2⟩ := info_parts info_pk
  have HR := Lib.hid hrow
  have HAT := Lib.hid hat
  clear hrow hat
  go_enter Try.func5, Try.ntmps5
  go_wp2_with fail
  refine (new_any a n cap _ HR.out).mono ?_
  rintro e u1 ⟨rfl, hb1, hz1', ra, rn, rc, hs1⟩
  have HB1 := Lib.hid hb1
  have HS1 := Lib.hid hs1
  have Z1 := Lib.hid hz1'
  have hbl : W.heap.size < u1.heap.size := by omega
  clear hb1 hz1' hs1
  go_wp2_with fail
  refine (traffic13 20 (by omega) _ ra rn rc _ HS1.out).mono ?_
  rintro e u2 ⟨lp, a1, n1, c1, rfl, hdr, hs2, he2, hr2, hx2⟩
  have HD := Lib.hid hdr
  have HH2 := Lib.hid ((Hld13.start HS1.out).call hs2 he2)
  have R2 := Lib.hid hr2
  have X2 := Lib.hid (show ∀ x, a1 = some x → ¬ x.block = W.heap.size from fun x hx => by have := hx2 x hx; omega)
  have hn1 : n1 ≤ 20 := by rw [← hr2.len]; exact hdr.len
  clear hdr hs2 he2 hr2 hx2
  go_wp2_with fail
  refine (order13 a1 n1 c1 lp (by omega) _ R2.out).mono ?_
  rintro e u3 ⟨a3, n3, c3, rfl, hb3, hl3, h31, h32, hx3, hg3⟩
  rw [isort_id lp HD.out.asc] at hl3 hg3
  have HR3 := Lib.hid (GivesPk.row hl3 h31 h32 (by have := HD.out.len; omega) (HD.out.bd (by omega)) hg3)
  have HH3 := Lib.hid (HH2.out.below hb3)
  have R3 := Lib.hid (R2.out.under hb3)
  clear hb3 hl3 h31 h32 hx3 hg3
  go_wp2_with fail
  refine (rsame13_any a3 n3 c3 lp a1 n1 c1 lp true (pkEq_self lp) _ HR3.out R3.out).mono ?_
  rintro e u4 ⟨rfl, m4, hm4⟩
  have HH4 := Lib.hid (show Hld13 u1 W.heap.size ra rn rc u4 from by rw [hm4]; exact HH3.out.drewN m4)
  have R4 := Lib.hid (show PkR u4 a1 n1 c1 lp from by rw [hm4]; exact R3.out.under ((Below.refl _ _).drewN m4))
  clear hm4 HR3 R3 HH3
  go_wp2_with fail
  refine (mixed13 n1 (by omega) _ ra rn rc _ (HH4.out.at HS1.out)).mono ?_
  rintro e u5 ⟨M, F, rfl, hM, hs5, hF, hh5⟩
  have HM := Lib.hid (And.intro hs5 hF)
  have HH5 := Lib.hid (HH4.out.call (hh5.at (HH4.out.at HS1.out)) hh5.ap)
  have R5 := Lib.hid (R4.out.apart hh5.ap X2.out)
  clear hM hs5 hF hh5
  go_wp2_with fail
  go_loopw [33, 7] (fun vi s7 wx => ∃ (k : Nat) (lm : List Pk), vi = .int .i64 k ∧ k ≤ n1 ∧ lm.length = k ∧ Hid (∀ q ∈ lm, q ∈ lp) ∧ Hid (Below u5.heap.size u5 wx) ∧ Hid (wx.ownsRow u5.heap.size 47 3 s7 k (pkV lm))) (fun vi _ _ => n1 - (intOf vi).toNat)
  case atStart => exact ⟨0, [], by go_num, Nat.zero_le _, rfl, (fun q hq => by cases hq), Below.refl _ _, World.ownsRow_nil _ _ _ _⟩
  case round =>
    obtain ⟨k, lm, rfl, hk, hlm, HL, HB, HO⟩ := hrel
    obtain ⟨wk, rfl⟩ : ∃ u : World, u = wr := ⟨_, rfl⟩
    by_cases hlt : k < n1
    · have hlI : (k : Int) < (n1 : Int) := by omega
      obtain ⟨x, hx⟩ : ∃ x, F k = x := ⟨_, rfl⟩
      have cM := (HM.out.1.under HB.out).cell hlt
      have hFk := HM.out.2 k hlt
      rw [hx] at cM hFk
      obtain ⟨j, rfl⟩ := Int.eq_ofNat_of_zero_le hFk.1
      have hj : j < n1 := by omega
      have hjI : (j : Int) < (n1 : Int) := by omega
      obtain ⟨B, off, q, ha, hcs, hq, hbd⟩ := (R5.out.under HB.out).at hj
      obtain ⟨c0, c1', c2⟩ := hcs j q hq
      have HQ := Lib.hid (And.intro ha (List.mem_of_getElem? hq))
      have hw5 : u5.heap.size ≤ wk.heap.size := HB.out.size
      clear hx hFk hcs hq hbd
      rw [ha]
      clear ha
      go_wp2_with (at_builtin; refine wpList_append_lies _ rfl _ _ 22 rfl u5.heap.size 47 i0 (.agg #[.int .i64 0, .int .i64 0, .int .i64 0]) 3 24 Try.underlying22 hi hz0 hz1 hz2 rfl (by decide) _ _ _ rfl (HO.out.alloc _) ⟨wk.heap.size, 0, none⟩ 1 1 [.int .i64 q.f, .int .i64 q.t, .int .i64 q.s] rfl rfl (news13 wk q _) (ones13 q) (by omega) (by unfold maxLen; omega) (by omega) (by simp; omega) _ rfl ?_)
      intro g cp w6 hown hgrow hat hlt6
      have hn6 := Lib.hid (And.intro hown hgrow)
      have hrw := Lib.hid (show ∀ i, Value.ownBlock _ = some i → u5.heap.size ≤ i from fun i hi => (HO.out.lt i hi).1)
      clear hown hgrow hat hlt6
      go_wp2_with fail
      go_roundw
      case rel => exact ⟨k + 1, lm ++ [q], by go_num, by omega, by rw [List.length_append, hlm]; rfl, (fun y hy => by
        rcases List.mem_append.1 hy with c | c
        · exact HL.out y c
        · rw [List.mem_singleton.1 c]; exact HQ.out.2), (HB.out.alloc hw5 _).grown hn6.out.2 (by simp; omega) hrw.out, by rw [pkV_append]; exact hn6.out.1⟩
      case measure => first | (simp [intOf]; done) | (simp [intOf]; omega)
    · obtain rfl : k = n1 := by omega
      have hkI : ¬ (k : Int) < (k : Int) := by omega
      obtain ⟨a7, c7, hv7, hl7, hr7, hx7⟩ := pkR_of_owns HO.out (by omega) (fun q hq => HD.out.bd (by omega) q (HL.out q hq))
      subst hv7
      have R7 := Lib.hid hr7
      have HH7 := Lib.hid (HH5.out.below HB.out)
      have RP := Lib.hid (R5.out.under HB.out)
      clear hl7 hr7 hx7 HO
      go_wp2_with fail
      refine (order13 a7 k c7 lm (by omega) _ R7.out).mono ?_
      rintro e u8 ⟨a8, n8, c8, rfl, hb8, hl8, h81, h82, hx8, hg8⟩
      obtain rfl : n8 = k := by rw [← hl8, isort_length, hlm]
      have HBM := Lib.hid (show ∀ q ∈ isort lm, Pk64 q from fun q hq => HD.out.bd (by omega) q (HL.out q ((mem_isort q lm).1 hq)))
      have R8 := Lib.hid (GivesPk.row hl8 h81 h82 (by omega) HBM.out hg8)
      have R7b := Lib.hid (R7.out.under hb8)
      have HH8 := Lib.hid (HH7.out.below hb8)
      have RP8 := Lib.hid (RP.out.under hb8)
      have HLM := Lib.hid hlm
      clear hb8 hl8 h81 h82 hx8 hg8 HH7 RP R7 HB hlm
      go_wp2_with fail
      go_loopw [11] (fun s11 wx => ∃ t : Nat, s11 = .int .i64 t ∧ t ≤ 200 ∧ Hid (Below u8.heap.size u8 wx)) (fun s11 _ => 200 - (intOf s11).toNat)
      case atStart => exact ⟨0, by go_num, by omega, Below.refl _ _⟩
      case round =>
        obtain ⟨t, rfl, ht, HT⟩ := hrel
        obtain ⟨wt, rfl⟩ : ∃ u : World, u = wr := ⟨_, rfl⟩
        by_cases ht2 : t < 200
        · have htI : (t : Int) < 200 := by omega
          go_wp2_with fail
          go_loopw [58, 12, 13] (fun vi s12 s13 wx => ∃ i : Nat, vi = .int .i64 i ∧ i ≤ n8 ∧ Hid (TwoR u8.heap.size s12 (flt (t : Int) (isort lm) i) s13 (flt (t : Int) lm i) wx) ∧ Hid (Below u8.heap.size u8 wx)) (fun vi _ _ _ => n8 - (intOf vi).toNat)
          case atStart => exact ⟨0, by go_num, Nat.zero_le _, TwoR.start _ _, HT⟩
          case round =>
            obtain ⟨i, rfl, hin, HTW, HB⟩ := hrel
            obtain ⟨wi, rfl⟩ : ∃ u : World, u = wr := ⟨_, rfl⟩
            by_cases hlt : i < n8
            · have hlI : (i : Int) < (n8 : Int) := by omega
              obtain ⟨B, off, q, ha, hcs, hq, hbd⟩ := (R8.out.under HB.out).at hlt
              obtain ⟨c0, c1', c2⟩ := hcs i q hq
              have HQ := Lib.hid (And.intro hq hq)
              have hw8 : u8.heap.size ≤ wi.heap.size := HB.out.size
              have hf1 := flt_len (t : Int) (isort lm) i
              clear hcs hq hbd
              subst ha
              by_cases e1 : q.t = (t : Int)
              · have hb1 : (q.t == (t : Int)) = true := by simp [e1]
                have E1 := Lib.hid e1
                clear e1
                go_wp2_with (at_builtin; refine wpList_append_lies _ rfl _ _ 22 rfl u8.heap.size 47 i0 (.agg #[.int .i64 0, .int .i64 0, .int .i64 0]) 3 24 Try.underlying22 hi hz0 hz1 hz2 rfl (by decide) _ _ _ rfl (HTW.out.r1.alloc _) ⟨wi.heap.size, 0, none⟩ 1 1 [.int .i64 q.f, .int .i64 q.t, .int .i64 q.s] rfl rfl (news13 wi q _) (ones13 q) (by omega) (by unfold maxLen; omega) (by omega) (by simp; omega) _ rfl ?_)
                intro g1 cp1 w6 hown hgrow hat hlt6
                have HT6 := Lib.hid (show TwoR u8.heap.size _ (flt (t : Int) (isort lm) (i + 1)) _ (flt (t : Int) lm i) w6 from by rw [flt_yes HQ.out.2 E1.out]; exact TwoR.put (HTW.out.alloc _) hown hgrow (by rw [World.size_alloc]; exact hat))
                have HB6 := Lib.hid ((HB.out.alloc hw8 _).grown hgrow (by simp; omega) (fun j hj => (HTW.out.r1.lt j hj).1))
                clear hown hgrow hat hlt6 c0 c1' c2
                obtain ⟨B', off', q', ha', hcs', hq', hbd'⟩ := (R7b.out.under HB6.out).at hlt
                obtain ⟨d0, d1, d2⟩ := hcs' i q' hq'
                have HQ' := Lib.hid (And.intro hq' hq')
                have hw6 : u8.heap.size ≤ w6.heap.size := HB6.out.size
                have hf2 := flt_len (t : Int) lm i
                clear hcs' hq' hbd'
                subst ha'
                by_cases e2 : q'.t = (t : Int)
                · have hb2 : (q'.t == (t : Int)) = true := by simp [e2]
                  have E2 := Lib.hid e2
                  clear e2
                  go_wp2_with (at_builtin; refine wpList_append_lies _ rfl _ _ 22 rfl u8.heap.size 47 i0 (.agg #[.int .i64 0, .int .i64 0, .int .i64 0]) 3 24 Try.underlying22 hi hz0 hz1 hz2 rfl (by decide) _ _ _ rfl (HT6.out.r2.alloc _) ⟨w6.heap.size, 0, none⟩ 1 1 [.int .i64 q'.f, .int .i64 q'.t, .int .i64 q'.s] rfl rfl (news13 w6 q' _) (ones13 q') (by omega) (by unfold maxLen; omega) (by omega) (by simp; omega) _ rfl ?_)
                  intro g2 cp2 w7 hown hgrow hat hlt7
                  have HT7 := Lib.hid (show TwoR u8.heap.size _ (flt (t : Int) (isort lm) (i + 1)) _ (flt (t : Int) lm (i + 1)) w7 from by rw [flt_yes HQ'.out.2 E2.out]; exact (TwoR.put (HT6.out.alloc _).swap hown hgrow (by rw [World.size_alloc]; exact hat)).swap)
                  have HB7 := Lib.hid ((HB6.out.alloc hw6 _).grown hgrow (by simp; omega) (fun j hj => (HT6.out.r2.lt j hj).1))
                  clear hown hgrow hat hlt7
                  go_wp2_with fail
                  go_roundw
                  case rel => exact ⟨i + 1, by go_num, by omega, HT7, HB7⟩
                  case measure => first | (simp [intOf]; done) | (simp [intOf]; omega)
                · have hb2 : (q'.t == (t : Int)) = false := by simp [e2]
                  have HT7 := Lib.hid (show TwoR u8.heap.size _ (flt (t : Int) (isort lm) (i + 1)) _ (flt (t : Int) lm (i + 1)) w6 from by rw [flt_no HQ'.out.2 e2]; exact HT6.out)
                  clear e2
                  go_wp2_with fail
                  go_roundw
                  case rel => exact ⟨i + 1, by go_num, by omega, HT7, HB6⟩
                  case measure => first | (simp [intOf]; done) | (simp [intOf]; omega)
              · have hb1 : (q.t == (t : Int)) = false := by simp [e1]
                have HT6 := Lib.hid (show TwoR u8.heap.size _ (flt (t : Int) (isort lm) (i + 1)) _ (flt (t : Int) lm i) wi from by rw [flt_no HQ.out.2 e1]; exact HTW.out)
                clear e1
                obtain ⟨B', off', q', ha', hcs', hq', hbd'⟩ := (R7b.out.under HB.out).at hlt
                obtain ⟨d0, d1, d2⟩ := hcs' i q' hq'
                have HQ' := Lib.hid (And.intro hq' hq')
                have hw6 : u8.heap.size ≤ wi.heap.size := HB.out.size
                have hf2 := flt_len (t : Int) lm i
                clear hcs' hq' hbd'
                subst ha'
                by_cases e2 : q'.t = (t : Int)
                · have hb2 : (q'.t == (t : Int)) = true := by simp [e2]
                  have E2 := Lib.hid e2
                  clear e2
                  go_wp2_with (at_builtin; refine wpList_append_lies _ rfl _ _ 22 rfl u8.heap.size 47 i0 (.agg #[.int .i64 0, .int .i64 0, .int .i64 0]) 3 24 Try.underlying22 hi hz0 hz1 hz2 rfl (by decide) _ _ _ rfl (HT6.out.r2.alloc _) ⟨wi.heap.size, 0, none⟩ 1 1 [.int .i64 q'.f, .int .i64 q'.t, .int .i64 q'.s] rfl rfl (news13 wi q' _) (ones13 q') (by omega) (by unfold maxLen; omega) (by omega) (by simp; omega) _ rfl ?_)
                  intro g2 cp2 w7 hown hgrow hat hlt7
                  have HT7 := Lib.hid (show TwoR u8.heap.size _ (flt (t : Int) (isort lm) (i + 1)) _ (flt (t : Int) lm (i + 1)) w7 from by rw [flt_yes HQ'.out.2 E2.out]; exact (TwoR.put (HT6.out.alloc _).swap hown hgrow (by rw [World.size_alloc]; exact hat)).swap)
                  have HB7 := Lib.hid ((HB.out.alloc hw6 _).grown hgrow (by simp; omega) (fun j hj => (HT6.out.r2.lt j hj).1))
                  clear hown hgrow hat hlt7
                  go_wp2_with fail
                  go_roundw
                  case rel => exact ⟨i + 1, by go_num, by omega, HT7, HB7⟩
                  case measure => first | (simp [intOf]; done) | (simp [intOf]; omega)
                · have hb2 : (q'.t == (t : Int)) = false := by simp [e2]
                  have HT7 := Lib.hid (show TwoR u8.heap.size _ (flt (t : Int) (isort lm) (i + 1)) _ (flt (t : Int) lm (i + 1)) wi from by rw [flt_no HQ'.out.2 e2]; exact HT6.out)
                  clear e2
                  go_wp2_with fail
                  go_roundw
                  case rel => exact ⟨i + 1, by go_num, by omega, HT7, HB⟩
                  case measure => first | (simp [intOf]; done) | (simp [intOf]; omega)
            · obtain rfl : i = n8 := by omega
              have hiI : ¬ (i : Int) < (i : Int) := by omega
              obtain ⟨ax, cx, hvx, hlx, hrx, _⟩ := pkR_of_owns HTW.out.r1 (by have := flt_len (t : Int) (isort lm) i; omega) (fun q hq => HBM.out q (flt_mem hq))
              obtain ⟨ay, cy, hvy, hly, hry, _⟩ := pkR_of_owns HTW.out.r2 (by have := flt_len (t : Int) lm i; omega) (fun q hq => HBM.out q ((mem_isort q lm).2 (flt_mem hq)))
              have hee : flt (t : Int) (isort lm) i = flt (t : Int) lm i := by
                have h1 := flt_all (t : Int) (isort lm)
                have h2 := flt_all (t : Int) lm
                rw [isort_length, HLM.out] at h1
                rw [HLM.out] at h2
                rw [h1, h2, isort_filter]
              have HXY := Lib.hid (And.intro hrx (And.intro hry hee))
              subst hvx hvy
              clear hlx hrx hly hry hee
              go_wp2_with fail
              refine (rsame13_any ax _ cx _ ay _ cy _ true (by rw [HXY.out.2.2]; exact pkEq_self _) _ HXY.out.1 HXY.out.2.1).mono ?_
              rintro e w9 ⟨rfl, m9, hm9⟩
              have HB9 := Lib.hid (show Below u8.heap.size u8 w9 from by rw [hm9]; exact HB.out.drewN m9)
              clear hm9
              go_wp2_with fail
              go_roundw
              case rel => exact ⟨t + 1, by go_num, by omega, HB9⟩
              case measure => first | (simp [intOf]; done) | (simp [intOf]; omega)
        · have htI : ¬ (t : Int) < 200 := by omega
          have HHe := Lib.hid (HH8.out.below HT.out)
          have RPe := Lib.hid (RP8.out.under HT.out)
          clear HT
          go_wp2_with fail
          refine (n_any 50 (by omega) (by omega) _ ra rn rc _ (HHe.out.at HS1.out)).mono ?_
          rintro e w9 ⟨d, hd, rfl, hs9, he9⟩
          have HH9 := Lib.hid (HHe.out.call hs9 he9.apart)
          have RP9 := Lib.hid (RPe.out.apart he9.apart X2.out)
          obtain ⟨hd0, hd1⟩ := hd
          clear hs9 he9
          go_wp2_with fail
          refine (later_ok13 a1 n8 c1 lp d ⟨by omega, by omega⟩ (HD.out.vcode (by omega)) (fun q hq => by have := HD.out.ok q hq; omega) _ RP9.out).mono ?_
          rintro e w10 ⟨aq, nq, cq, rfl, hb10, hrq, hxq⟩
          have HH10 := Lib.hid (HH9.out.below hb10)
          have RP10 := Lib.hid (RP9.out.under hb10)
          have RQ := Lib.hid hrq
          clear hb10 hrq hxq
          go_wp2_with fail
          refine (mod_any at0 300 HAT.out (by omega) (by omega) _).mono ?_
          rintro e w11 ⟨rfl, hw11⟩
          subst hw11
          obtain ⟨τ, hτ⟩ : ∃ τ, at0 % 300 = τ := ⟨_, rfl⟩
          have hτ0 : 0 ≤ τ := by omega
          have hτ1 : τ < 300 := by omega
          rw [hτ]
          clear hτ
          obtain ⟨v, hv⟩ : ∃ v, bytW τ (sel (-1) lp) = v := ⟨_, rfl⟩
          have HV := Lib.hid hv
          clear hv
          go_wp2_with fail
          refine (bytes13 aq nq cq _ (-1) (τ + d) v (by rw [bytW_late]; exact HV.out) _ RQ.out).mono ?_
          rintro e w12 ⟨rfl, hb12⟩
          have HH12 := Lib.hid (HH10.out.below hb12)
          have RP12 := Lib.hid (RP10.out.under hb12)
          clear hb12
          go_wp2_with fail
          refine (bytes13 a1 n8 c1 lp (-1) τ v HV.out _ RP12.out).mono ?_
          rintro e w13 ⟨rfl, hb13⟩
          have HH13 := Lib.hid (HH12.out.below hb13)
          clear hb13
          go_wp2_with fail
          refine (awake13 _).mono ?_
          rintro e w14 ⟨rfl, hb14⟩
          have HH14 := Lib.hid (HH13.out.below hb14)
          clear hb14
          go_wp2_with fail
          go_ret
          exact ⟨rfl, HB1.out.trans (HH14.out.ap.below (Nat.le_refl _) HB1.out.size)⟩

end Go.Proofs.Ytenfhjmaljleoaa
