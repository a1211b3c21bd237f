/- The document's buckets and staircases: good, Token, Steps. By the verifier's side. -/
import Derived.Test.YtjipmkgnndldpaaFBkABkB
import Derived.Test.YtjipmkgnndldpaaFR5D
import Derived.Test.YtjipmkgnndldpaaFLong
namespace Go.Proofs.Ytjipmkgnndldpaa
open Go.RowKit
set_option linter.unusedSimpArgs false
set_option linter.unusedVariables false

set_option maxHeartbeats 800000 in
theorem rgood_any (n d : Int) (c : Bool) (hc : okB n d = c) (w : World) : Calls Try.prog 182 #[.agg #[.int .i64 n, .int .i64 d]] w (Says (.bool c) w) := by
  cases hv : okF n d with
  | false =>
    obtain rfl : c = false := by rw [← hc]; unfold okB; rw [hv]; rfl
    have HV := Lib.hid hv
    clear hv hc
    go_enter Try.func182, Try.ntmps182
    go_wp2_with fail
    refine (frvalid_any n d _ HV.out _).mono ?_
    rintro e w1 ⟨rfl, hb⟩
    have HBB := Lib.hid (fr_one1 hb)
    clear hb
    go_wp2_with fail
    go_ret
    exact ⟨rfl, HBB.out⟩
  | true =>
    by_cases h0 : 0 ≤ n
    · obtain rfl : c = true := by rw [← hc]; unfold okB; rw [hv, decide_eq_true h0]; rfl
      have t0 : decide (0 ≤ n) = true := decide_eq_true h0
      have HV := Lib.hid hv
      clear hv hc
      go_enter Try.func182, Try.ntmps182
      go_wp2_with fail
      refine (frvalid_any n d _ HV.out _).mono ?_
      rintro e w1 ⟨rfl, hb⟩
      have HBB := Lib.hid (fr_one1 hb)
      obtain ⟨hc1, hf1⟩ := bcell hb
      clear hb
      go_wp2_with fail
      go_ret
      exact ⟨rfl, HBB.out⟩
    · obtain rfl : c = false := by rw [← hc]; unfold okB; rw [hv, decide_eq_false h0]; rfl
      have t0 : decide (0 ≤ n) = false := decide_eq_false h0
      have HV := Lib.hid hv
      clear hv hc
      go_enter Try.func182, Try.ntmps182
      go_wp2_with fail
      refine (frvalid_any n d _ HV.out _).mono ?_
      rintro e w1 ⟨rfl, hb⟩
      have HBB := Lib.hid (fr_one1 hb)
      obtain ⟨hc1, hf1⟩ := bcell hb
      clear hb
      go_wp2_with fail
      go_ret
      exact ⟨rfl, HBB.out⟩

/-- A curve that is being made of its first value 0 and others behind it: its box behind W's first new block, its row at g. -/
structure Bq1 (W : World) (p inc : Int) (f : Nat → Int) (k g cap : Nat) (u : World) : Prop where
  below : Below W.heap.size W u
  out : Cur3 u (W.heap.size + 1) (.slice (some ⟨g, 0, none⟩) k cap) (.int .i64 p) (.int .i64 inc)
  own : u.ownsRow W.heap.size 3 1 (.slice (some ⟨g, 0, none⟩) k cap) k ((firsts f k).map (Value.int .i64))
  ne : ¬ g = W.heap.size + 1
  one : 1 ≤ W.heap.size
theorem aq_own (w : World) : (w.alloc (.cells #[.int .i64 0] 3)).ownsRow w.heap.size 3 1 (.slice (some ⟨w.heap.size, 0, none⟩) 1 1) 1 [.int .i64 0] := by
  exact ⟨by simp, .inr ⟨w.heap.size, 1, #[.int .i64 0], rfl, Nat.le_refl _, heap_alloc_new w _, Nat.le_refl _, by unfold maxLen; omega, rfl, by simp⟩⟩
section
variable {W u v : World} {p inc : Int} {f : Nat → Int} {k g cap : Nat}
theorem Bq1.start (h : 1 ≤ W.heap.size) (h0 : f 0 = 0) : Bq1 W p inc f 1 W.heap.size 1 ((W.alloc (.cells #[.int .i64 0] 3)).alloc (.cells #[.slice (some ⟨W.heap.size, 0, none⟩) 1 1, .int .i64 p, .int .i64 inc] 38)) := by
  have ho := aq_own W
  refine ⟨((Below.refl _ _).alloc (Nat.le_refl _) _).alloc (by simp) _, Cur3.new2 _ _ _ _ _ _, ?_, by omega, h⟩
  rw [show (firsts f 1).map (Value.int .i64) = [.int .i64 0] by rw [firsts_succ, h0]; rfl]
  exact ho.alloc _
theorem Bq1.under (h : Bq1 W p inc f k g cap u) (hb : Below u.heap.size u v) : Bq1 W p inc f k g cap v :=
  ⟨h.below.trans (hb.mono h.below.size), h.out.below hb, owns_apart h.own (below_apart (b := W.heap.size - 1) hb) (by have := h.one; omega), h.ne, h.one⟩
theorem Bq1.alloc (h : Bq1 W p inc f k g cap u) (o : Obj) : Bq1 W p inc f k g cap (u.alloc o) := h.under ((Below.refl _ _).alloc (Nat.le_refl _) o)
theorem Bq1.drew (h : Bq1 W p inc f k g cap u) : Bq1 W p inc f k g cap u.drew := h.under (Below.refl _ _).drew
theorem Bq1.drewN (h : Bq1 W p inc f k g cap u) (n : Nat) : Bq1 W p inc f k g cap (u.drewN n) := h.under ((Below.refl _ _).drewN n)
theorem Bq1.glt (h : Bq1 W p inc f k g cap u) : W.heap.size ≤ g := (h.own.lt g rfl).1
theorem Bq1.push (h : Bq1 W p inc f k g cap u) {z : Int} {g2 cap2 : Nat}
    (hown : v.ownsRow W.heap.size 3 1 (.slice (some ⟨g2, 0, none⟩) (k + 1) cap2) (k + 1) ((firsts f k).map (Value.int .i64) ++ [Value.int .i64 z])) (hg : u.grownBy v (Value.slice (some ⟨g, 0, none⟩) k cap).ownBlock) (hat : g2 = g ∨ g2 = u.heap.size) (hz : f k = z) :
    Bq1 W p inc f (k + 1) g2 cap2 (v.setCell ⟨W.heap.size + 1, 0, none⟩ (.slice (some ⟨g2, 0, none⟩) (k + 1) cap2)) := by
  have h1 := h.glt
  have h2 := h.ne
  have h3 := h.out.lt
  have hg2 : ¬ g2 = W.heap.size + 1 := by
    rcases hat with e | e
    · rw [e]; exact h2
    · omega
  refine ⟨(h.below.grown hg h.below.size (fun j hj => by cases hj; show W.heap.size ≤ g; omega)).setCell (p := ⟨W.heap.size + 1, 0, none⟩) (by show W.heap.size ≤ W.heap.size + 1; omega) _, (h.out.grownS hg h2).set0 _, ?_, hg2, h.one⟩
  rw [firsts_succ, List.map_append, hz]
  exact owns_ne (p := ⟨W.heap.size + 1, 0, none⟩) hown hg2 _
theorem Bq1.row (h : Bq1 W p inc f k g cap u) (hk1 : 1 ≤ k) (hk : k ≤ 100000) (hb : ∀ t, t < k → In64 (f t)) : RowZ u (some ⟨g, 0, none⟩) k cap (firsts f k) := by
  obtain ⟨a9, c9, hv9, R9, X9⟩ := rowZ_of_owns h.own (by omega) (fun i hi => by rw [firsts_length] at hi; rw [firsts_getD _ _ _ hi]; exact hb i hi)
  cases hv9
  exact R9
end

set_option maxRecDepth 100000 in
set_option maxHeartbeats 6400000 in
theorem rtoken_ok {bn bd rn rd : Nat} {zs : List Int} {p inc c : Int} (h1 : okB bn bd = true) (h3 : okB rn rd = true) (h : PasIs bn bd rn rd zs p inc c) (w : World) :
    Calls Try.prog 83 #[bucketV bn bd rn rd] w (GivesCE zs p inc c w) := by
  obtain ⟨i0, hi0, hz0, hz1, hz2⟩ := info_parts info_int
  obtain ⟨W0, hW⟩ : ∃ W, (w.alloc (.cells #[.int .i64 bn, .int .i64 bd, .int .i64 rn, .int .i64 rd] 46)).alloc (.cells #[.slice none 0 0, .int .i64 0, .int .i64 0] 38) = W := ⟨_, rfl⟩
  obtain ⟨hX, hR, hB⟩ := bucket_boxes w bn bd rn rd hW
  have HX := Lib.hid hX
  have HR := Lib.hid hR
  have HB := Lib.hid hB
  have HW := Lib.hid hW
  clear hX hR hB hW
  have h1' := (okB_iff _ _).1 h1
  have h3' := (okB_iff _ _).1 h3
  rw [okF_iff] at h1' h3'
  have hm : (bn ≤ 1073741824 ∧ 1 ≤ bd ∧ bd ≤ 1073741824) ∧ (rn ≤ 1073741824 ∧ 1 ≤ rd ∧ rd ≤ 1073741824) := by omega
  obtain ⟨⟨b0, b1, b2⟩, r0, r1, r2⟩ := hm
  have H1 := Lib.hid h1
  have H3 := Lib.hid h3
  have HM := Lib.hid (And.intro (And.intro b0 (And.intro b1 b2)) (And.intro r0 (And.intro r1 r2)))
  clear h1 h3 h1' h3'
  rcases h with ⟨hl, hE⟩ | ⟨hl, rfl, rfl, rfl, rfl⟩
  rotate_left
  · have t1 : (120 : Int) < (rd : Int) := by omega
    clear hl
    go_enter Try.func83, Try.ntmps83
    go_upto_region 1 with fail
    rw [HW.out]
    obtain ⟨c0, c1, c2, c3⟩ := HX.out
    go_wp2_with fail
    clear c0 c1 c2 c3
    refine (rgood_any _ _ _ H1.out _).mono ?_
    rintro e u1 ⟨rfl, hb⟩
    have HX1 := Lib.hid (HX.out.below hb)
    have HR1 := Lib.hid (HR.out.below hb)
    have HB1 := Lib.hid (HB.out.trans (hb.mono HB.out.size))
    clear hb
    obtain ⟨c0, c1, c2, c3⟩ := HX1.out
    go_wp2_with fail
    clear c0 c1 c2 c3
    refine (rgood_any _ _ _ H3.out _).mono ?_
    rintro e u2 ⟨rfl, hb⟩
    have HX2 := Lib.hid (HX1.out.below hb)
    have HRX := Lib.hid (HR1.out.below hb)
    have HBX := Lib.hid (HB1.out.trans (hb.mono HB1.out.size))
    clear hb
    obtain ⟨c0, c1, c2, c3⟩ := HX2.out
    obtain ⟨e0, e1, e2, e3, e4, e5⟩ := HRX.out
    go_wp2_with fail
    exact bodyPost_ret (v := .tuple #[curV none 0 0 0 0, .int .i64 3]) (by simp [results, Try.results83, go_sem, e0, e1, e2]) rfl (GivesCE.postBad (b := w.heap.size + 1) HBX.out (Nat.le_succ _) 3)
  have H2 := Lib.hid hE
  clear hE
  have t1 : ¬ (120 : Int) < (rd : Int) := by omega
  have t2 : ¬ (1073741824 : Int) < (rn : Int) := by omega
  obtain ⟨bq, hbq⟩ : ∃ q : Nat, bn / bd = q := ⟨_, rfl⟩
  have bqe : (bn : Int).tdiv (bd : Int) = (bq : Int) := by rw [← hbq]; exact (Int.ofNat_tdiv bn bd).symm
  have hbql : bq ≤ bn := by rw [← hbq]; exact Nat.div_le_self _ _
  have t3 : ¬ (1073741824 : Int) < (bq : Int) := by omega
  have d1 : decide ((120 : Int) < (rd : Int)) = false := decide_eq_false t1
  have d2 : decide ((1073741824 : Int) < (rn : Int)) = false := decide_eq_false t2
  have d3 : decide ((1073741824 : Int) < (bq : Int)) = false := decide_eq_false t3
  have n0 : ¬ (bd : Int) = 0 := by omega
  have n1 : ¬ bd = 0 := by omega
  have n2 : ¬ (rd : Int) = 0 := by omega
  have n3 : ¬ rd = 0 := by omega
  have HBQ := Lib.hid hbq
  clear hbq
  go_enter Try.func83, Try.ntmps83
  go_upto_region 1 with fail
  rw [HW.out]
  obtain ⟨c0, c1, c2, c3⟩ := HX.out
  go_wp2_with fail
  clear c0 c1 c2 c3
  refine (rgood_any _ _ _ H1.out _).mono ?_
  rintro e u1 ⟨rfl, hb⟩
  have HX1 := Lib.hid (HX.out.below hb)
  have HR1 := Lib.hid (HR.out.below hb)
  have HB1 := Lib.hid (HB.out.trans (hb.mono HB.out.size))
  clear hb
  obtain ⟨c0, c1, c2, c3⟩ := HX1.out
  go_wp2_with fail
  clear c0 c1 c2 c3
  refine (rgood_any _ _ _ H3.out _).mono ?_
  rintro e u2 ⟨rfl, hb⟩
  have HX2 := Lib.hid (HX1.out.below hb)
  have HR2 := Lib.hid (HR1.out.below hb)
  have HB2 := Lib.hid (HB1.out.trans (hb.mono HB1.out.size))
  clear hb
  obtain ⟨c0, c1, c2, c3⟩ := HX2.out
  obtain ⟨l1, l2, l3, l4⟩ := lt5 HX2.out.lt
  go_upto_region 5 with fail
  go_cut [4] (fun s4 wx => s4 = .pointer (some ⟨u2.heap.size + 1, 0, none⟩) ∧ Hid (Bq1 u2 rd rn (tokF bn bd rn rd) 1 u2.heap.size 1 wx))
  case first =>
    have L0 := Lib.hid (Bq1.start (p := rd) (inc := rn) (f := tokF bn bd rn rd) (show 1 ≤ u2.heap.size by have := HX2.out.lt; omega) rfl)
    go_wp2_with fail
    go_meet
    exact ⟨rfl, L0⟩
  case rest =>
  obtain ⟨rfl, L0⟩ := hcut
  obtain ⟨u3, rfl⟩ : ∃ u : World, u = wc := ⟨_, rfl⟩
  clear c0 c1 c2 c3 l1 l2 l3 l4
  obtain ⟨W, rfl⟩ : ∃ u : World, u = u2 := ⟨_, rfl⟩
  go_wp2_with fail
  have HIN := Lib.hid (show ∀ t, t ≤ 1000 → In64 (tokF bn bd rn rd t) from fun t ht => by
    have hm := HM.out
    have := tok_val hm.1.2.1 hm.2.2.1 hm.1.1 hm.2.1 (bn := bn) (rn := rn) (t := t) (by omega)
    exact ⟨by omega, by omega⟩)
  clear HX HR HB HX1 HR1 HB1
  have HX := HX2
  have HR := HR2
  have HB := HB2
  clear HX2 HR2 HB2
  go_loopw [5] (fun sl wx => ∃ (k g cap : Nat), sl = .int .i64 k ∧ 1 ≤ k ∧ k ≤ rd + 1 ∧ Hid (Bq1 W rd rn (tokF bn bd rn rd) k g cap wx)) (fun sl _ => rd + 1 - (intOf sl).toNat)
  case atStart => exact ⟨1, _, 1, by go_num, by omega, by omega, L0⟩
  case round =>
    obtain ⟨k, g, cap, rfl, hk1, hk, HS⟩ := hrel
    obtain ⟨wk, rfl⟩ : ∃ u : World, u = wr := ⟨_, rfl⟩
    have HXK := Lib.hid (HX.out.below HS.out.below)
    obtain ⟨c0, c1, c2, c3⟩ := HXK.out
    by_cases hlt : k ≤ rd
    · have hl2 : (k : Int) ≤ (rd : Int) := by omega
      obtain ⟨z, hz⟩ : ∃ z, tokF bn bd rn rd k = z := ⟨_, rfl⟩
      have HZ := Lib.hid hz
      obtain ⟨j, hj⟩ : ∃ j, k = j + 1 := ⟨k - 1, by omega⟩
      have ej : (k : Int) - 1 = (j : Int) := by omega
      have hd := tok_doc (bn := bn) (bd := bd) (rn := rn) (rd := rd) (k := k) b1 r1 hk1
      rw [show k - 1 = j by omega, HBQ.out] at hd
      obtain ⟨G, hG⟩ : ∃ G : Nat, rn * j = G := ⟨_, rfl⟩
      have hGb : G ≤ 1073741824 * 1000 := by rw [← hG]; exact Nat.mul_le_mul r0 (by omega)
      have eG : (rn : Int) * (j : Int) = (G : Int) := by rw [← hG]; exact (Int.natCast_mul rn j).symm
      rw [hG] at hd
      obtain ⟨q, hq⟩ : ∃ q : Nat, G / rd = q := ⟨_, rfl⟩
      obtain ⟨r, hr⟩ : ∃ r : Nat, G % rd = r := ⟨_, rfl⟩
      obtain ⟨s, hs⟩ : ∃ r : Nat, bn % bd = r := ⟨_, rfl⟩
      have hqb : q ≤ G := by rw [← hq]; exact Nat.div_le_self _ _
      have hrb : r < rd := by rw [← hr]; exact Nat.mod_lt _ (by omega)
      have hsb : s < bd := by rw [← hs]; exact Nat.mod_lt _ (by omega)
      have eq1 : (G : Int).tdiv (rd : Int) = (q : Int) := by rw [← hq]; exact (Int.ofNat_tdiv G rd).symm
      have er1 : (G : Int).tmod (rd : Int) = (r : Int) := by rw [← hr]; exact (Int.ofNat_tmod G rd).symm
      have es1 : (bn : Int).tmod (bd : Int) = (s : Int) := by rw [← hs]; exact (Int.ofNat_tmod bn bd).symm
      rw [hq, hr, hs] at hd
      obtain ⟨A, hA⟩ : ∃ A : Nat, s * rd = A := ⟨_, rfl⟩
      obtain ⟨B, hB'⟩ : ∃ B : Nat, r * bd = B := ⟨_, rfl⟩
      obtain ⟨C, hC⟩ : ∃ C : Nat, bd * rd = C := ⟨_, rfl⟩
      have eA : (s : Int) * (rd : Int) = (A : Int) := by rw [← hA]; exact (Int.natCast_mul s rd).symm
      have eB : (r : Int) * (bd : Int) = (B : Int) := by rw [← hB']; exact (Int.natCast_mul r bd).symm
      have eC : (bd : Int) * (rd : Int) = (C : Int) := by rw [← hC]; exact (Int.natCast_mul bd rd).symm
      have hAb : A ≤ 1073741824 * 120 := by rw [← hA]; exact Nat.mul_le_mul (by omega) (by omega)
      have hBb : B ≤ 120 * 1073741824 := by rw [← hB']; exact Nat.mul_le_mul (by omega) b2
      have hCb : C ≤ 1073741824 * 120 := by rw [← hC]; exact Nat.mul_le_mul b2 (by omega)
      have hC1 : 1 ≤ C := by rw [← hC]; exact Nat.mul_pos b1 r1
      rw [hA, hB', hC] at hd
      obtain ⟨X, hX⟩ : ∃ X : Nat, A + B = X := ⟨_, rfl⟩
      obtain ⟨Y, hY⟩ : ∃ Y : Nat, bq + q = Y := ⟨_, rfl⟩
      have eX : (A : Int) + (B : Int) = (X : Int) := by omega
      have eY : (bq : Int) + (q : Int) = (Y : Int) := by omega
      rw [hX, hY] at hd
      obtain ⟨Z, hZ⟩ : ∃ Z : Nat, X / C = Z := ⟨_, rfl⟩
      have hZb : Z ≤ X := by rw [← hZ]; exact Nat.div_le_self _ _
      have eZ : (X : Int).tdiv (C : Int) = (Z : Int) := by rw [← hZ]; exact (Int.ofNat_tdiv X C).symm
      rw [hZ] at hd
      have ev : (Y : Int) + (Z : Int) = z := by rw [← hz]; show _ = ((tokN bn bd rn rd k : Nat) : Int); rw [← hd]; omega
      have n4 : ¬ (C : Int) = 0 := by omega
      have n5 : ¬ C = 0 := by omega
      have hzb : -4611686018427387904 ≤ z ∧ z ≤ 4611686018427387904 := by omega
      obtain ⟨hzb1, hzb2⟩ := hzb
      have wC : IntKind.i64.wrap (C : Int) = (C : Int) := IntWalk.i64_in _ ⟨by omega, by omega⟩
      have wZ : IntKind.i64.wrap (Z : Int) = (Z : Int) := IntWalk.i64_in _ ⟨by omega, by omega⟩
      have wz : IntKind.i64.wrap z = z := IntWalk.i64_in _ ⟨by omega, by omega⟩
      have eZ2 : (X : Int) / (C : Int) = (Z : Int) := by rw [← hZ]; exact (Int.natCast_ediv X C).symm
      clear hd hG hq hr hs hA hB' hC hX hY hZ hz hj
      go_upto_region 9 with fail
      go_quiet (fail)
      go_upto_region 10 with fail
      go_quiet (fail)
      go_upto_region 11 with fail
      generalize hd1 : wk.drewN _ = v1
      generalize hd2 : v1.drewN _ = u5
      have Q0 := Lib.hid (show Bq1 W rd rn (tokF bn bd rn rd) k g cap u5.drew by rw [← hd2, ← hd1]; exact ((HS.out.drewN _).drewN _).drew)
      have KS8 := Lib.hid (show ∀ u, Bq1 W rd rn (tokF bn bd rn rd) k g cap u → (fun u => (u.cell? ⟨w.heap.size, 0, none⟩ = some (.int .i64 bn) ∧ u.cell? ⟨w.heap.size, 1, none⟩ = some (.int .i64 bd) ∧ u.cell? ⟨w.heap.size, 2, none⟩ = some (.int .i64 rn) ∧ u.cell? ⟨w.heap.size, 3, none⟩ = some (.int .i64 rd)) ∧ u.cell? ⟨W.heap.size + 1, 0, none⟩ = some (.slice (some ⟨g, 0, none⟩) k cap)) u from fun u hu => by have x := HX.out.below hu.below; exact ⟨⟨x.c0, x.c1, x.c2, x.c3⟩, hu.out.c0⟩)
      obtain ⟨u6, hu6⟩ : ∃ u, u5.drew = u := ⟨_, rfl⟩
      rw [hu6] at Q0
      clear hd1 hd2 HS c0 c1 c2 c3
      refine wp_region_keeps (fun u => (u.cell? ⟨w.heap.size, 0, none⟩ = some (.int .i64 bn) ∧ u.cell? ⟨w.heap.size, 1, none⟩ = some (.int .i64 bd) ∧ u.cell? ⟨w.heap.size, 2, none⟩ = some (.int .i64 rn) ∧ u.cell? ⟨w.heap.size, 3, none⟩ = some (.int .i64 rd)) ∧ u.cell? ⟨W.heap.size + 1, 0, none⟩ = some (.slice (some ⟨g, 0, none⟩) k cap)) 14 3 (by kernel_rfl) (by kernel_rfl) (by rw [hu6]; exact KS8.out _ Q0.out) (fun hHeld0 => ?_)
      rw [hu6] at hHeld0 ⊢
      refine wpAnyK_take (i := 0) (v := ?_) rfl (by kernel_rfl) (fun _ _ _ h => h) (Or.inl ⟨by rfl, ?_⟩) (by assumption) ?_
      rotate_left
      · (intro w hSw; (try dsimp only at hSw); go_simp; try with_reducible rfl)
      try simp only [Act.put, List.getElem_toArray, List.getElem_cons_zero, List.getElem_cons_succ, List.setIfInBounds_toArray, List.set_cons_zero, List.set_cons_succ]
      refine wpAnyK_take (i := 1) (v := ?_) rfl (by kernel_rfl) (fun _ _ _ h => h) (Or.inl ⟨by rfl, ?_⟩) (by assumption) ?_
      rotate_left
      · (intro w hSw; (try dsimp only at hSw); go_simp; try with_reducible rfl)
      try simp only [Act.put, List.getElem_toArray, List.getElem_cons_zero, List.getElem_cons_succ, List.setIfInBounds_toArray, List.set_cons_zero, List.set_cons_succ]
      refine wpAnyK_take (i := 2) (v := ?_) rfl (by kernel_rfl) (fun _ _ _ h => h) (Or.inl ⟨by rfl, ?_⟩) (by assumption) ?_
      rotate_left
      · (intro w hSw; (try dsimp only at hSw); go_simp; try with_reducible rfl)
      try simp only [Act.put, List.getElem_toArray, List.getElem_cons_zero, List.getElem_cons_succ, List.setIfInBounds_toArray, List.set_cons_zero, List.set_cons_succ]
      refine wpAnyK_take (i := 3) (v := ?_) rfl (by kernel_rfl) (fun _ _ _ h => h) (Or.inl ⟨by rfl, ?_⟩) (by assumption) ?_
      rotate_left
      · (intro w hSw; (try dsimp only at hSw); go_simp; try with_reducible rfl)
      try simp only [Act.put, List.getElem_toArray, List.getElem_cons_zero, List.getElem_cons_succ, List.setIfInBounds_toArray, List.set_cons_zero, List.set_cons_succ]
      refine wpAnyK_take (i := 4) (v := ?_) rfl (by kernel_rfl) (fun _ _ _ h => h) (Or.inl ⟨by rfl, ?_⟩) (by assumption) ?_
      rotate_left
      · (intro w hSw; (try dsimp only at hSw); go_simp; try with_reducible rfl)
      try simp only [Act.put, List.getElem_toArray, List.getElem_cons_zero, List.getElem_cons_succ, List.setIfInBounds_toArray, List.set_cons_zero, List.set_cons_succ]
      refine wpAnyK_take (i := 5) (v := ?_) rfl (by kernel_rfl) (fun _ _ _ h => h) (Or.inl ⟨by rfl, ?_⟩) (by assumption) ?_
      rotate_left
      · (intro w hSw; (try dsimp only at hSw); go_simp; try with_reducible rfl)
      try simp only [Act.put, List.getElem_toArray, List.getElem_cons_zero, List.getElem_cons_succ, List.setIfInBounds_toArray, List.set_cons_zero, List.set_cons_succ]
      refine wpAnyK_take (i := 6) (v := ?_) rfl (by kernel_rfl) (fun _ _ _ h => h) (Or.inl ⟨by rfl, ?_⟩) (by assumption) ?_
      rotate_left
      · (intro w hSw; (try dsimp only at hSw); go_simp; try with_reducible rfl)
      try simp only [Act.put, List.getElem_toArray, List.getElem_cons_zero, List.getElem_cons_succ, List.setIfInBounds_toArray, List.set_cons_zero, List.set_cons_succ]
      refine wpAnyK_take (i := 7) (v := ?_) rfl (by kernel_rfl) (fun _ _ _ h => h) (Or.inl ⟨by rfl, ?_⟩) (by assumption) ?_
      rotate_left
      · (intro w hSw; (try dsimp only at hSw); go_simp; try with_reducible rfl)
      try simp only [Act.put, List.getElem_toArray, List.getElem_cons_zero, List.getElem_cons_succ, List.setIfInBounds_toArray, List.set_cons_zero, List.set_cons_succ]
      refine wpAnyK_take (i := 8) (v := ?_) rfl (by kernel_rfl) (fun _ _ _ h => h) (Or.inl ⟨by rfl, ?_⟩) (by assumption) ?_
      rotate_left
      · (intro w hSw; (try dsimp only at hSw); go_simp; try with_reducible rfl)
      try simp only [Act.put, List.getElem_toArray, List.getElem_cons_zero, List.getElem_cons_succ, List.setIfInBounds_toArray, List.set_cons_zero, List.set_cons_succ]
      refine wpAnyK_take (i := 9) (v := ?_) rfl (by kernel_rfl) (fun _ _ _ h => h) (Or.inl ⟨by rfl, ?_⟩) (by assumption) ?_
      rotate_left
      · (intro w hSw; (try dsimp only at hSw); go_simp; try with_reducible rfl)
      try simp only [Act.put, List.getElem_toArray, List.getElem_cons_zero, List.getElem_cons_succ, List.setIfInBounds_toArray, List.set_cons_zero, List.set_cons_succ]
      refine wpAnyK_take (i := 10) (v := ?_) rfl (by kernel_rfl) (fun _ _ _ h => h) (Or.inl ⟨by rfl, ?_⟩) (by assumption) ?_
      rotate_left
      · (intro w hSw; (try dsimp only at hSw); go_simp; try with_reducible rfl)
      try simp only [Act.put, List.getElem_toArray, List.getElem_cons_zero, List.getElem_cons_succ, List.setIfInBounds_toArray, List.set_cons_zero, List.set_cons_succ]
      refine wpAnyK_take (i := 11) (v := ?_) rfl (by kernel_rfl) (fun _ _ _ h => h) (Or.inl ⟨by rfl, ?_⟩) (by assumption) ?_
      rotate_left
      · (intro w hSw; (try dsimp only at hSw); go_simp; try with_reducible rfl)
      try simp only [Act.put, List.getElem_toArray, List.getElem_cons_zero, List.getElem_cons_succ, List.setIfInBounds_toArray, List.set_cons_zero, List.set_cons_succ]
      refine wpAnyK_take (i := 12) (v := ?_) rfl (by kernel_rfl) (fun _ _ _ h => h) (Or.inl ⟨by rfl, ?_⟩) (by assumption) ?_
      rotate_left
      · (intro w hSw; (try dsimp only at hSw); go_simp; try with_reducible rfl)
      try simp only [Act.put, List.getElem_toArray, List.getElem_cons_zero, List.getElem_cons_succ, List.setIfInBounds_toArray, List.set_cons_zero, List.set_cons_succ]
      refine wpAnyK_step (i := 13) rfl (by kernel_rfl) (fun K hK => ?_)
      go_simp
      refine hK.out _ _ (KS8.out _ (Q0.out.alloc _)) (fun hHeld1 => ?_)
      clear hK K hHeld0
      try simp only [Act.put, List.getElem_toArray, List.getElem_cons_zero, List.getElem_cons_succ, List.setIfInBounds_toArray, List.set_cons_zero, List.set_cons_succ]
      refine wpAnyK_done (by kernel_rfl) ?_
      simp only [List.drop_succ_cons, List.drop_zero]
      have HN7 : Hid (∀ j u, [Value.int .i64 z][j]? = some u → (u6.alloc (.cells #[.int .i64 z] 3)).cell? ((⟨u6.heap.size, 0, none⟩ : Addr).add j) = some u) := Lib.hid (World.news_of_block (cs := #[.int .i64 z]) (t := 3) (fr := (0, 0)) (heap_alloc_new u6 _))
      have Q7 := Lib.hid (Q0.out.alloc (.cells #[.int .i64 z] 3))
      clear hHeld1
      obtain ⟨b7, hb7⟩ : ∃ b, u6.heap.size = b := ⟨_, rfl⟩
      rw [hb7] at HN7 ⊢
      generalize u6.alloc (.cells #[.int .i64 z] 3) = w7 at HN7 Q7 ⊢
      clear hb7
      go_wp2_with (at_builtin; refine wpList_append_lies _ rfl _ _ 27 rfl W.heap.size 3 i0 (.int .i64 0) 1 8 Try.underlying27 hi0 hz0 hz1 hz2 rfl (by decide) (.slice (some ⟨g, 0, none⟩) k cap) k ((firsts (tokF bn bd rn rd) k).map (Value.int .i64)) rfl Q7.out.own ⟨b7, 0, none⟩ 1 1 [.int .i64 z] rfl rfl HN7.out ?l2 (by omega) ?l3 ?l4 ?l5 _ rfl ?_)
      case l2 => first | rfl | (intro u hu; simp at hu; subst hu; rfl)
      case l3 => unfold maxLen; omega
      case l4 => omega
      case l5 => exact Q7.out.below.size
      intro g2 cap2 w8 hown1 hgrow hat hlt8
      have hbox8 := Q7.out.out.grownS hgrow Q7.out.ne
      have Q8 := Lib.hid (Q7.out.push hown1 hgrow (hatOf hat) HZ.out)
      clear hown1 hgrow hat hlt8
      obtain ⟨d0, d1, d2, e0, e1, e2⟩ := hbox8
      go_wp2_with fail
      go_roundw
      case rel => exact ⟨k + 1, g2, cap2, by go_num, by omega, by omega, Q8⟩
      case measure => simp [intOf]; omega
    · have hl2 : ¬ (k : Int) ≤ (rd : Int) := by omega
      obtain rfl : k = rd + 1 := by omega
      have hin : ∀ t, t < rd + 1 → In64 ((tokF bn bd rn rd) t) := fun t ht => HIN.out t (by omega)
      have RLAST := Lib.hid (HS.out.row (by omega) (by omega) hin)
      have HBL := Lib.hid (HB.out.trans (HS.out.below.mono HB.out.size))
      have KRL := Lib.hid (HR.out.below HS.out.below)
      obtain ⟨o0, o1, o2, o3, o4, o5⟩ := HS.out.out
      clear hin
      go_wp2_with fail
      have HRAW := Lib.hid (tok_raw (bn := bn) (bd := bd) (rn := rn) (rd := rd) b1 r1 (by omega) b0 r0)
      rw [Nat.add_comm 1 rd] at HRAW
      refine (rmade_ok _ _ _ _ _ _ HRAW.out _ RLAST.out).mono ?_
      rintro e v9 hg9
      obtain ⟨a, n, cap9, rfl, hb, hr, hx⟩ := H2.out.ce hg9
      have HQ := Lib.hid (GivesCE.post (b := w.heap.size + 1) (p := p) (inc := inc) (c := c) HBL.out (Nat.le_succ _) KRL.out.lt hb hr hx)
      obtain ⟨r0, r1, r2, r3, r4, r5⟩ := KRL.out.below hb
      clear hb hr hx hg9
      go_wp2_with fail
      exact bodyPost_ret (v := .tuple #[curV a n cap9 p inc, .int .i64 c]) (by simp [results, Try.results83, go_sem, r0, r1, r2]) rfl HQ.out

end Go.Proofs.Ytjipmkgnndldpaa
