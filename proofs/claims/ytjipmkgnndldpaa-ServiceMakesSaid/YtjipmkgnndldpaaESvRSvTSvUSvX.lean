/- The document's paces: good, Pace. By the verifier's side. -/
import Derived.Test.YtjipmkgnndldpaaESvASvB
import Derived.Test.YtjipmkgnndldpaaEBkFSvFSvG
import Derived.Test.YtjipmkgnndldpaaER5D
import Derived.Test.YtjipmkgnndldpaaELong
import Derived.Test.YtjipmkgnndldpaaEConER
import Derived.Test.YtjipmkgnndldpaaESvLSvCSvD
import Derived.Deep.RegionWith
import Derived.Test.YtjipmkgnndldpaaESvHSvISvV
import Derived.Test.YtjipmkgnndldpaaERMax
import Derived.Test.YtjipmkgnndldpaaECloR
namespace Go.Proofs.Ytjipmkgnndldpaa
open Go.RowKit
set_option linter.unusedSimpArgs false
set_option linter.unusedVariables false

set_option maxHeartbeats 1600000 in
theorem rgood2_any (n1 d1 n2 d2 : Int) (c : Bool) (hc : (okB n1 d1 && okB n2 d2) = c) (w : World) : Calls Try.prog 97 #[.agg #[.int .i64 n1, .int .i64 d1], .agg #[.int .i64 n2, .int .i64 d2]] w (Says (.bool c) w) := by
  obtain ⟨v1, h1⟩ : ∃ v, okF n1 d1 = v := ⟨_, rfl⟩
  obtain ⟨v2, h2⟩ : ∃ v, okF n2 d2 = v := ⟨_, rfl⟩
  have HV := Lib.hid (And.intro h1 h2)
  unfold okB at hc
  rw [h1, h2] at hc
  clear h1 h2
  cases v1 with
  | false =>
    obtain rfl : c = false := by rw [← hc]; rfl
    clear hc
    go_enter Try.func97, Try.ntmps97
    go_wp2_with fail
    refine (frvalid_any n1 d1 _ HV.out.1 _).mono ?_
    rintro e w1 ⟨rfl, hb⟩
    obtain ⟨A1, B1⟩ := fr_boxes2 hb
    have HBB := Lib.hid (fr_two1 hb)
    have HA := Lib.hid A1
    have HB := Lib.hid B1
    clear hb A1 B1
    obtain ⟨a0, a1, _, _⟩ := HA.out
    go_wp2_with fail
    go_ret
    exact ⟨rfl, HBB.out⟩
  | true =>
    by_cases t1 : 0 ≤ n1
    rotate_left
    · have t1d : decide (0 ≤ n1) = false := decide_eq_false t1
      obtain rfl : c = false := by rw [← hc, t1d]; rfl
      clear hc
      go_enter Try.func97, Try.ntmps97
      go_wp2_with fail
      refine (frvalid_any n1 d1 _ HV.out.1 _).mono ?_
      rintro e w1 ⟨rfl, hb⟩
      obtain ⟨A1, B1⟩ := fr_boxes2 hb
      have HBB := Lib.hid (fr_two1 hb)
      have HA := Lib.hid A1
      have HB := Lib.hid B1
      clear hb A1 B1
      obtain ⟨a0, a1, _, _⟩ := HA.out
      go_wp2_with fail
      go_ret
      exact ⟨rfl, HBB.out⟩
    have t1d : decide (0 ≤ n1) = true := decide_eq_true t1
    cases v2 with
    | false =>
      obtain rfl : c = false := by rw [← hc, t1d]; rfl
      clear hc
      go_enter Try.func97, Try.ntmps97
      go_wp2_with fail
      refine (frvalid_any n1 d1 _ HV.out.1 _).mono ?_
      rintro e w1 ⟨rfl, hb⟩
      obtain ⟨A1, B1⟩ := fr_boxes2 hb
      have HBB := Lib.hid (fr_two1 hb)
      have HA := Lib.hid A1
      have HB := Lib.hid B1
      clear hb A1 B1
      obtain ⟨a0, a1, _, _⟩ := HA.out
      obtain ⟨b0, b1, _, _⟩ := HB.out
      go_wp2_with fail
      clear a0 a1 b0 b1
      refine (frvalid_any n2 d2 _ HV.out.2 _).mono ?_
      rintro e w2 ⟨rfl, hb⟩
      have HB2 := Lib.hid (HBB.out.trans (hb.mono HBB.out.size))
      obtain ⟨b0, b1, _, _⟩ := HB.out.below hb
      clear hb
      go_wp2_with fail
      go_ret
      exact ⟨rfl, HB2.out⟩
    | true =>
      by_cases t2 : 0 ≤ n2
      · have t2d : decide (0 ≤ n2) = true := decide_eq_true t2
        obtain rfl : c = true := by rw [← hc, t1d, t2d]; rfl
        clear hc
        go_enter Try.func97, Try.ntmps97
        go_wp2_with fail
        refine (frvalid_any n1 d1 _ HV.out.1 _).mono ?_
        rintro e w1 ⟨rfl, hb⟩
        obtain ⟨A1, B1⟩ := fr_boxes2 hb
        have HBB := Lib.hid (fr_two1 hb)
        have HA := Lib.hid A1
        have HB := Lib.hid B1
        clear hb A1 B1
        obtain ⟨a0, a1, _, _⟩ := HA.out
        obtain ⟨b0, b1, _, _⟩ := HB.out
        go_wp2_with fail
        clear a0 a1 b0 b1
        refine (frvalid_any n2 d2 _ HV.out.2 _).mono ?_
        rintro e w2 ⟨rfl, hb⟩
        have HB2 := Lib.hid (HBB.out.trans (hb.mono HBB.out.size))
        obtain ⟨b0, b1, _, _⟩ := HB.out.below hb
        clear hb
        go_wp2_with fail
        go_ret
        exact ⟨rfl, HB2.out⟩
      · have t2d : decide (0 ≤ n2) = false := decide_eq_false t2
        obtain rfl : c = false := by rw [← hc, t1d, t2d]; rfl
        clear hc
        go_enter Try.func97, Try.ntmps97
        go_wp2_with fail
        refine (frvalid_any n1 d1 _ HV.out.1 _).mono ?_
        rintro e w1 ⟨rfl, hb⟩
        obtain ⟨A1, B1⟩ := fr_boxes2 hb
        have HBB := Lib.hid (fr_two1 hb)
        have HA := Lib.hid A1
        have HB := Lib.hid B1
        clear hb A1 B1
        obtain ⟨a0, a1, _, _⟩ := HA.out
        obtain ⟨b0, b1, _, _⟩ := HB.out
        go_wp2_with fail
        clear a0 a1 b0 b1
        refine (frvalid_any n2 d2 _ HV.out.2 _).mono ?_
        rintro e w2 ⟨rfl, hb⟩
        have HB2 := Lib.hid (HBB.out.trans (hb.mono HBB.out.size))
        obtain ⟨b0, b1, _, _⟩ := HB.out.below hb
        clear hb
        go_wp2_with fail
        go_ret
        exact ⟨rfl, HB2.out⟩

/-- A curve that is being made of values: its box at O, its row at g. -/
structure Bq2 (W : World) (O : Nat) (p inc : Int) (f : Nat → Int) (k g cap : Nat) (u : World) : Prop where
  below : Below W.heap.size W u
  out : Cur3 u O (.slice (some ⟨g, 0, none⟩) k cap) (.int .i64 p) (.int .i64 inc)
  own : u.ownsRow W.heap.size 3 1 (.slice (some ⟨g, 0, none⟩) k cap) k ((firsts f k).map (Value.int .i64))
  ne : ¬ g = O
  one : 1 ≤ W.heap.size
  hi : W.heap.size ≤ O
theorem zeros_firsts {f : Nat → Int} {d : Nat} (h : ∀ t, t < d → f t = 0) : (firsts f d).map (Value.int .i64) = List.replicate d (Value.int .i64 0) := by
  have e : firsts f d = List.replicate d 0 := list_ext_getD (by rw [firsts_length, List.length_replicate]) fun i hi => by
    rw [firsts_length] at hi
    rw [firsts_getD _ _ _ hi, h i hi]
    simp [List.getD, hi]
  rw [e, List.map_replicate]
section
variable {W u v : World} {O : Nat} {p inc : Int} {f : Nat → Int} {k g cap : Nat}
theorem Bq2.under (h : Bq2 W O p inc f k g cap u) (hb : Below u.heap.size u v) : Bq2 W O p inc f k g cap v :=
  ⟨h.below.trans (hb.mono h.below.size), h.out.below hb, owns_apart h.own (below_apart (b := W.heap.size - 1) hb) (by have := h.one; omega), h.ne, h.one, h.hi⟩
theorem Bq2.alloc (h : Bq2 W O p inc f k g cap u) (o : Obj) : Bq2 W O p inc f k g cap (u.alloc o) := h.under ((Below.refl _ _).alloc (Nat.le_refl _) o)
theorem Bq2.drew (h : Bq2 W O p inc f k g cap u) : Bq2 W O p inc f k g cap u.drew := h.under (Below.refl _ _).drew
theorem Bq2.drewN (h : Bq2 W O p inc f k g cap u) (n : Nat) : Bq2 W O p inc f k g cap (u.drewN n) := h.under ((Below.refl _ _).drewN n)
theorem Bq2.glt (h : Bq2 W O p inc f k g cap u) : W.heap.size ≤ g := (h.own.lt g rfl).1
theorem Bq2.push (h : Bq2 W O p inc f k g cap u) {z : Int} {g2 cap2 : Nat}
    (hown : v.ownsRow W.heap.size 3 1 (.slice (some ⟨g2, 0, none⟩) (k + 1) cap2) (k + 1) ((firsts f k).map (Value.int .i64) ++ [Value.int .i64 z])) (hg : u.grownBy v (Value.slice (some ⟨g, 0, none⟩) k cap).ownBlock) (hat : g2 = g ∨ g2 = u.heap.size) (hz : f k = z) :
    Bq2 W O p inc f (k + 1) g2 cap2 (v.setCell ⟨O, 0, none⟩ (.slice (some ⟨g2, 0, none⟩) (k + 1) cap2)) := by
  have h1 := h.glt
  have h2 := h.ne
  have h3 := h.out.lt
  have h4 := h.hi
  have hg2 : ¬ g2 = O := by
    rcases hat with e | e
    · rw [e]; exact h2
    · omega
  refine ⟨(h.below.grown hg h.below.size (fun j hj => by cases hj; show W.heap.size ≤ g; omega)).setCell (p := ⟨O, 0, none⟩) (by show W.heap.size ≤ O; omega) _, (h.out.grownS hg h2).set0 _, ?_, hg2, h.one, h4⟩
  rw [firsts_succ, List.map_append, hz]
  exact owns_ne (p := ⟨O, 0, none⟩) hown hg2 _
theorem Bq2.row (h : Bq2 W O p inc f k g cap u) (hk1 : 1 ≤ k) (hk : k ≤ 100000) (hb : ∀ t, t < k → In64 (f t)) : RowZ u (some ⟨g, 0, none⟩) k cap (firsts f k) := by
  obtain ⟨a9, c9, hv9, R9, X9⟩ := rowZ_of_owns h.own (by omega) (fun i hi => by rw [firsts_length] at hi; rw [firsts_getD _ _ _ hi]; exact hb i hi)
  cases hv9
  exact R9
/-- The two orders in which the zeros and the curve are made. -/
theorem Bq2.start1 {d : Nat} (h : 1 ≤ W.heap.size) (hd : d ≤ 1000) (h0 : ∀ t, t < d → f t = 0) (t : TypeId) : Bq2 W (W.heap.size + 1) p inc f d W.heap.size d ((((W.alloc (.cells (madeCells #[.int .i64 0] d) 3)).alloc (.cells #[.slice (some ⟨W.heap.size, 0, none⟩) d d, .int .i64 p, .int .i64 inc] t)).drew)) := by
  have ho := made_own W W.heap.size d (Nat.le_refl _) hd
  have hb : Below W.heap.size W ((W.alloc (.cells (madeCells #[.int .i64 0] d) 3)).alloc (.cells #[.slice (some ⟨W.heap.size, 0, none⟩) d d, .int .i64 p, .int .i64 inc] t)) := ((Below.refl _ _).alloc (Nat.le_refl _) _).alloc (by simp) _
  have h1 : Bq2 W (W.heap.size + 1) p inc f d W.heap.size d ((W.alloc (.cells (madeCells #[.int .i64 0] d) 3)).alloc (.cells #[.slice (some ⟨W.heap.size, 0, none⟩) d d, .int .i64 p, .int .i64 inc] t)) := by
    refine ⟨hb, ?_, ?_, by omega, h, by omega⟩
    · have := Cur3.new (W.alloc (.cells (madeCells #[.int .i64 0] d) 3)) (.slice (some ⟨W.heap.size, 0, none⟩) d d) (.int .i64 p) (.int .i64 inc) t
      rwa [show (W.alloc (.cells (madeCells #[.int .i64 0] d) 3)).heap.size = W.heap.size + 1 from by simp] at this
    · rw [zeros_firsts h0]; exact ho.alloc _
  exact h1.drew
theorem Bq2.start2 {d : Nat} (h : 1 ≤ W.heap.size) (hd : d ≤ 1000) (h0 : ∀ t, t < d → f t = 0) (t : TypeId) : Bq2 W W.heap.size p inc f d (W.heap.size + 1) d ((((W.alloc (.cells #[.slice (some ⟨W.heap.size + 1, 0, none⟩) d d, .int .i64 p, .int .i64 inc] t)).alloc (.cells (madeCells #[.int .i64 0] d) 3)).drew)) := by
  have ho := made_own (W.alloc (.cells #[.slice (some ⟨W.heap.size + 1, 0, none⟩) d d, .int .i64 p, .int .i64 inc] t)) W.heap.size d (by simp) hd
  rw [show (W.alloc (.cells #[.slice (some ⟨W.heap.size + 1, 0, none⟩) d d, .int .i64 p, .int .i64 inc] t)).heap.size = W.heap.size + 1 from by simp] at ho
  have hb : Below W.heap.size W ((W.alloc (.cells #[.slice (some ⟨W.heap.size + 1, 0, none⟩) d d, .int .i64 p, .int .i64 inc] t)).alloc (.cells (madeCells #[.int .i64 0] d) 3)) := ((Below.refl _ _).alloc (Nat.le_refl _) _).alloc (by simp) _
  have h1 : Bq2 W W.heap.size p inc f d (W.heap.size + 1) d ((W.alloc (.cells #[.slice (some ⟨W.heap.size + 1, 0, none⟩) d d, .int .i64 p, .int .i64 inc] t)).alloc (.cells (madeCells #[.int .i64 0] d) 3)) := by
    refine ⟨hb, (Cur3.new W _ _ _ _).alloc _, ?_, by omega, h, by omega⟩
    rw [zeros_firsts h0]; exact ho
  exact h1.drew
end
theorem flat_zero (t : Nat) : eC [0, 0] 1 0 t = some 0 := by
  rw [eC_fin (flat_fin7 0 (by omega) (by omega)), flat_at7 0 (by omega) (by omega)]
  congr 1
  split <;> rfl
theorem rflat_zero (w : World) : Calls Try.prog 98 #[.int .i64 0] w (GivesOk (fun _ => some 0) w) := by
  have := rflat7 0 (by omega) (by omega) w
  rwa [show eC [0, 0] 1 0 = fun _ => some 0 from funext flat_zero] at this

set_option maxRecDepth 100000 in
set_option maxHeartbeats 6400000 in
theorem rpace_ok {rn rd ln ld : Nat} {zs : List Int} {p inc c : Int} (h1 : (okB rn rd && okB ln ld) = true) (h : PacIs rn rd ln ld zs p inc c) (w : World) :
    Calls Try.prog 22 #[bucketV rn rd ln ld] w (GivesCE zs p inc c w) := by
  obtain ⟨i0, hi0, hz0, hz1, hz2⟩ := info_parts info_int
  obtain ⟨W0, hW⟩ : ∃ W, (w.alloc (.cells #[.int .i64 rn, .int .i64 rd, .int .i64 ln, .int .i64 ld] 25)).alloc (.cells #[.slice none 0 0, .int .i64 0, .int .i64 0] 38) = W := ⟨_, rfl⟩
  obtain ⟨hX, hR, hB⟩ := pace_boxes w rn rd ln ld hW
  have HX := Lib.hid hX
  have HR := Lib.hid hR
  have HB := Lib.hid hB
  have HW := Lib.hid hW
  clear hX hR hB hW
  have h1' := h1
  rw [Bool.and_eq_true] at h1'
  have k1 := (okB_iff _ _).1 h1'.1
  have k2 := (okB_iff _ _).1 h1'.2
  rw [okF_iff] at k1 k2
  have hm : (rn ≤ 1073741824 ∧ 1 ≤ rd ∧ rd ≤ 1073741824) ∧ (ln ≤ 1073741824 ∧ 1 ≤ ld ∧ ld ≤ 1073741824) := by omega
  obtain ⟨⟨r0, r1, r2⟩, l0, l1, l2⟩ := hm
  obtain ⟨fs, hfs⟩ : ∃ f : Nat, upN ln ld = f := ⟨_, rfl⟩
  have hfb : fs ≤ 1073741824 := by rw [← hfs]; exact (up_le l1 _).2 (Nat.le_trans l0 (Nat.le_mul_of_pos_right _ l1))
  have hfu : fs * ld < ln + ld := by
    have h := Nat.div_mul_le_self (ln + ld - 1) ld
    unfold upN at hfs
    rw [hfs] at h
    omega
  have HFS := Lib.hid (show ln ≤ fs * ld ∧ fs * ld < ln + ld from ⟨(first_le l1).1 (by omega), hfu⟩)
  have HFE := Lib.hid hfs
  have HCC := Lib.hid (show ∀ (u : World), Calls Try.prog 35 #[.agg #[.int .i64 ln, .int .i64 ld]] u (Says (.int .i64 (fs : Int)) u) from fun u => by rw [show (fs : Int) = ceilF ln ld by rw [ceilF_up h1'.2, hfs]]; exact rceil_all ln ld u)
  have H1 := Lib.hid h1
  have H := Lib.hid h
  clear h1 h1' h k1 k2 hfs hfu
  by_cases hz : rn = 0
  · have HE := Lib.hid (show EIs (fun _ => some 0) zs p inc c by
      rcases H.out with ⟨_, h⟩ | ⟨h, _⟩
      · rw [hz, paceE_zero r1 l1] at h; exact h
      · exact absurd hz h)
    have hzi : (rn : Int) = 0 := by omega
    have hzb : ((rn : Int) == 0) = true := by simpa using hz
    clear r0 r1 r2 l0 l1 l2 H hfb hz hzi
    go_enter Try.func22, Try.ntmps22
    go_upto_region 1 with fail
    rw [HW.out]
    obtain ⟨c0, c1, c2, c3⟩ := HX.out
    go_wp2_with fail
    clear c0 c1 c2 c3
    refine (rgood2_any _ _ _ _ _ H1.out _).mono ?_
    rintro e u1 ⟨rfl, hb⟩
    have HX1 := Lib.hid (HX.out.below hb)
    have HR1 := Lib.hid (HR.out.below hb)
    have HB1 := Lib.hid (HB.out.trans (hb.mono HB.out.size))
    clear hb
    obtain ⟨c0, c1, c2, c3⟩ := HX1.out
    go_wp2_with fail
    clear c0 c1 c2 c3
    refine (HCC.out _).mono ?_
    rintro e u2 ⟨rfl, hb⟩
    have HX2 := Lib.hid (HX1.out.below hb)
    have HR2 := Lib.hid (HR1.out.below hb)
    have HB2 := Lib.hid (HB1.out.trans (hb.mono HB1.out.size))
    clear hb
    obtain ⟨c0, c1, c2, c3⟩ := HX2.out
    go_wp2_with fail
    clear c0 c1 c2 c3
    refine (rflat_zero _).mono ?_
    rintro e u3 ⟨a, n, cap, ys, q, jnc, rfl, hb, hr, hf, hx⟩
    obtain ⟨a', n', cap', he, hb', hr', hx'⟩ := HE.out.ce (w := u2) (w' := u3) (e := .returned (.tuple #[curV a n cap q jnc, .int .i64 0])) ⟨hb, .inl ⟨a, n, cap, ys, q, jnc, rfl, hr, hf, hx⟩⟩
    rw [he]
    have HQ := Lib.hid (GivesCE.post (b := w.heap.size + 1) (p := p) (inc := inc) (c := c) HB2.out (Nat.le_succ _) HR2.out.lt hb' hr' hx')
    obtain ⟨e0, e1, e2, e3, e4, e5⟩ := HR2.out.below hb'
    clear hb hr hf hx hb' hr' hx' he
    go_wp2_with fail
    exact bodyPost_ret (v := .tuple #[curV a' n' cap' p inc, .int .i64 c]) (by simp [results, Try.results22, go_sem, e0, e1, e2]) rfl HQ.out
  have hnz2 : ¬ (rn : Int) = 0 := by omega
  have hnz3 : ((rn : Int) == 0) = false := by simpa using hz
  by_cases hbig : 120 < rd ∨ 400 < fs
  · have HE := Lib.hid (show c = 3 ∧ zs = [] ∧ p = 0 ∧ inc = 0 by
      rcases H.out with ⟨h, hE⟩ | ⟨_, _, h⟩
      · have h4 : 400 < fs := by omega
        rcases hE with ⟨rfl, q, rfl, hf⟩ | ⟨h1, h2, h3, h4, _⟩
        · exact absurd hf.can (pace_no r1 l1 (by omega) (by rw [HFE.out]; exact h4))
        · exact ⟨h1, h2, h3, h4⟩
      · exact h)
    obtain ⟨rfl, rfl, rfl, rfl⟩ := HE.out
    by_cases h120 : 120 < rd
    · have h2 : (120 : Int) < (rd : Int) := by omega
      have h2d : decide ((120 : Int) < (rd : Int)) = true := decide_eq_true h2
      clear r0 r1 r2 l0 l1 l2 H hfb hbig
      go_enter Try.func22, Try.ntmps22
      go_upto_region 1 with fail
      rw [HW.out]
      obtain ⟨c0, c1, c2, c3⟩ := HX.out
      go_wp2_with fail
      clear c0 c1 c2 c3
      refine (rgood2_any _ _ _ _ _ H1.out _).mono ?_
      rintro e u1 ⟨rfl, hb⟩
      have HX1 := Lib.hid (HX.out.below hb)
      have HR1 := Lib.hid (HR.out.below hb)
      have HB1 := Lib.hid (HB.out.trans (hb.mono HB.out.size))
      clear hb
      obtain ⟨c0, c1, c2, c3⟩ := HX1.out
      go_wp2_with fail
      clear c0 c1 c2 c3
      refine (HCC.out _).mono ?_
      rintro e u2 ⟨rfl, hb⟩
      have HX2 := Lib.hid (HX1.out.below hb)
      have HR2 := Lib.hid (HR1.out.below hb)
      have HB2 := Lib.hid (HB1.out.trans (hb.mono HB1.out.size))
      clear hb
      obtain ⟨c0, c1, c2, c3⟩ := HX2.out
      obtain ⟨e0, e1, e2, e3, e4, e5⟩ := HR2.out
      go_wp2_with fail
      exact bodyPost_ret (v := .tuple #[curV none 0 0 0 0, .int .i64 3]) (by simp [results, Try.results22, go_sem, e0, e1, e2]) rfl (GivesCE.postBad (b := w.heap.size + 1) HB2.out (Nat.le_succ _) 3)
    · have h2 : ¬ (120 : Int) < (rd : Int) := by omega
      have h2d : decide ((120 : Int) < (rd : Int)) = false := decide_eq_false h2
      have h4 : (400 : Int) < (fs : Int) := by omega
      have h4d : decide ((400 : Int) < (fs : Int)) = true := decide_eq_true h4
      clear r0 r1 r2 l0 l1 l2 H hfb hbig
      go_enter Try.func22, Try.ntmps22
      go_upto_region 1 with fail
      rw [HW.out]
      obtain ⟨c0, c1, c2, c3⟩ := HX.out
      go_wp2_with fail
      clear c0 c1 c2 c3
      refine (rgood2_any _ _ _ _ _ H1.out _).mono ?_
      rintro e u1 ⟨rfl, hb⟩
      have HX1 := Lib.hid (HX.out.below hb)
      have HR1 := Lib.hid (HR.out.below hb)
      have HB1 := Lib.hid (HB.out.trans (hb.mono HB.out.size))
      clear hb
      obtain ⟨c0, c1, c2, c3⟩ := HX1.out
      go_wp2_with fail
      clear c0 c1 c2 c3
      refine (HCC.out _).mono ?_
      rintro e u2 ⟨rfl, hb⟩
      have HX2 := Lib.hid (HX1.out.below hb)
      have HR2 := Lib.hid (HR1.out.below hb)
      have HB2 := Lib.hid (HB1.out.trans (hb.mono HB1.out.size))
      clear hb
      obtain ⟨c0, c1, c2, c3⟩ := HX2.out
      obtain ⟨e0, e1, e2, e3, e4, e5⟩ := HR2.out
      go_wp2_with fail
      exact bodyPost_ret (v := .tuple #[curV none 0 0 0 0, .int .i64 3]) (by simp [results, Try.results22, go_sem, e0, e1, e2]) rfl (GivesCE.postBad (b := w.heap.size + 1) HB2.out (Nat.le_succ _) 3)
  have h120 : rd ≤ 120 := by omega
  have hf400 : fs ≤ 400 := by omega
  have H2 := Lib.hid (show EIs (paceE rn rd ln ld) zs p inc c by
    rcases H.out with ⟨_, h⟩ | ⟨_, h, _⟩
    · exact h
    · omega)
  have t1 : ¬ (120 : Int) < (rd : Int) := by omega
  have d1 : decide ((120 : Int) < (rd : Int)) = false := decide_eq_false t1
  have t2 : ¬ (400 : Int) < (fs : Int) := by omega
  have d2 : decide ((400 : Int) < (fs : Int)) = false := decide_eq_false t2
  have n0 : ¬ (ld : Int) = 0 := by omega
  have n1 : ¬ ld = 0 := by omega
  have n2 : ¬ (rd : Int) = 0 := by omega
  have n3 : ¬ rd = 0 := by omega
  have hmk := make_rowP fs (by omega)
  clear H hbig hfb
  have HZE := Lib.hid (show ∀ t, t < fs → paceF rn rd ln ld t = 0 from fun t ht => by
    have : ¬ ln ≤ t * ld := fun hh => by have := (first_le l1).2 hh; have := HFE.out; omega
    show ((paceN rn rd ln ld t : Nat) : Int) = 0
    rw [pace_none r1 l1 (by omega)]; rfl)
  have HIN := Lib.hid (show ∀ t, t ≤ 1000 → In64 (paceF rn rd ln ld t) from fun t ht => by
    have := pace_val (rn := rn) (ln := ln) r1 l1 r0 (t := t) (by omega)
    exact ⟨by omega, by omega⟩)
  go_enter Try.func22, Try.ntmps22
  go_upto_region 1 with fail
  rw [HW.out]
  obtain ⟨c0, c1, c2, c3⟩ := HX.out
  go_wp2_with fail
  clear c0 c1 c2 c3
  refine (rgood2_any _ _ _ _ _ H1.out _).mono ?_
  rintro e u1 ⟨rfl, hb⟩
  have HX1 := Lib.hid (HX.out.below hb)
  have HR1 := Lib.hid (HR.out.below hb)
  have HB1 := Lib.hid (HB.out.trans (hb.mono HB.out.size))
  clear hb
  obtain ⟨c0, c1, c2, c3⟩ := HX1.out
  go_wp2_with fail
  clear c0 c1 c2 c3
  refine (HCC.out _).mono ?_
  rintro e u2 ⟨rfl, hb⟩
  have HX2 := Lib.hid (HX1.out.below hb)
  have HR2 := Lib.hid (HR1.out.below hb)
  have HB2 := Lib.hid (HB1.out.trans (hb.mono HB1.out.size))
  clear hb
  obtain ⟨c0, c1, c2, c3⟩ := HX2.out
  have hW1 : 1 ≤ u2.heap.size := by have := HX2.out.lt; omega
  have L1 := Lib.hid (Bq2.start1 (p := rd) (inc := rn) (f := paceF rn rd ln ld) hW1 (show fs ≤ 1000 by omega) HZE.out 38)
  have L2 := Lib.hid (Bq2.start2 (p := rd) (inc := rn) (f := paceF rn rd ln ld) hW1 (show fs ≤ 1000 by omega) HZE.out 38)
  obtain ⟨lq1, lq2, lq3, lq4⟩ := lt5 HX2.out.lt
  clear hW1
  go_upto_region 8 with fail
  go_cut [5] (fun s5 wx => ∃ O g cap : Nat, s5 = .pointer (some ⟨O, 0, none⟩) ∧ Hid (Bq2 u2 O rd rn (paceF rn rd ln ld) fs g cap wx))
  case first =>
    go_region
    all_goals (go_wp2_with fail)
    · go_meet
      exact ⟨_, _, _, rfl, L1⟩
    · go_meet
      exact ⟨_, _, _, rfl, L2⟩
  case rest =>
  obtain ⟨O, g0, cap0, rfl, L0⟩ := hcut
  obtain ⟨u3, rfl⟩ : ∃ u : World, u = wc := ⟨_, rfl⟩
  clear c0 c1 c2 c3 lq1 lq2 lq3 lq4 L1 L2 hmk
  obtain ⟨W, rfl⟩ : ∃ u : World, u = u2 := ⟨_, rfl⟩
  clear HX HR HB HX1 HR1 HB1
  go_wp2_with fail
  go_loopw [6] (fun sl wx => ∃ (k g cap : Nat), sl = .int .i64 k ∧ fs ≤ k ∧ k ≤ fs + rd ∧ Hid (Bq2 W O rd rn (paceF rn rd ln ld) k g cap wx)) (fun sl _ => fs + rd - (intOf sl).toNat)
  case atStart => exact ⟨fs, g0, cap0, by go_num, by omega, by omega, L0⟩
  case round =>
    obtain ⟨k, g, cap, rfl, hk1, hk, HS⟩ := hrel
    obtain ⟨wk, rfl⟩ : ∃ u : World, u = wr := ⟨_, rfl⟩
    have HXK := Lib.hid (HX2.out.below HS.out.below)
    obtain ⟨c0, c1, c2, c3⟩ := HXK.out
    by_cases hlt : k < fs + rd
    · have hl2 : (k : Int) < (fs : Int) + (rd : Int) := by omega
      obtain ⟨j, hj⟩ : ∃ j, k = fs + j := ⟨k - fs, by omega⟩
      have hjb : j < rd := by omega
      have ej : (k : Int) - (fs : Int) = (j : Int) := by omega
      obtain ⟨z, hz⟩ : ∃ z, paceF rn rd ln ld k = z := ⟨_, rfl⟩
      have HZ := Lib.hid hz
      have hd := pace_doc (rn := rn) (rd := rd) (ln := ln) (ld := ld) (f := fs) (j := j) r1 l1 HFS.out.1
      rw [← hj] at hd
      obtain ⟨M, hM⟩ : ∃ M : Nat, fs * ld = M := ⟨_, rfl⟩
      have hMb : M ≤ 400 * 1073741824 := by rw [← hM]; exact Nat.mul_le_mul (by omega) l2
      have eM : (fs : Int) * (ld : Int) = (M : Int) := by rw [← hM]; exact (Int.natCast_mul fs ld).symm
      have hMl : ln ≤ M := by rw [← hM]; exact HFS.out.1
      have hMu : M < ln + ld := by rw [← hM]; exact HFS.out.2
      rw [hM] at hd
      obtain ⟨X, hX⟩ : ∃ X : Nat, M - ln = X := ⟨_, rfl⟩
      have eX : (M : Int) - (ln : Int) = (X : Int) := by omega
      have hXb : X < ld := by omega
      rw [hX] at hd
      obtain ⟨G, hG⟩ : ∃ G : Nat, rn * j = G := ⟨_, rfl⟩
      have hGb : G ≤ 1073741824 * 120 := by rw [← hG]; exact Nat.mul_le_mul r0 (by omega)
      have eG : (rn : Int) * (j : Int) = (G : Int) := by rw [← hG]; exact (Int.natCast_mul rn j).symm
      rw [hG] at hd
      obtain ⟨q, hq⟩ : ∃ q : Nat, G / rd = q := ⟨_, rfl⟩
      obtain ⟨b, hb⟩ : ∃ b : Nat, G % rd = b := ⟨_, rfl⟩
      obtain ⟨cq, hcq⟩ : ∃ c : Nat, rn / rd = c := ⟨_, rfl⟩
      obtain ⟨dq, hdq⟩ : ∃ d : Nat, rn % rd = d := ⟨_, rfl⟩
      have hqb : q ≤ G := by rw [← hq]; exact Nat.div_le_self _ _
      have hbb : b < rd := by rw [← hb]; exact Nat.mod_lt _ (by omega)
      have hcb : cq ≤ rn := by rw [← hcq]; exact Nat.div_le_self _ _
      have hdb : dq < rd := by rw [← hdq]; exact Nat.mod_lt _ (by omega)
      have eq1 : (G : Int).tdiv (rd : Int) = (q : Int) := by rw [← hq]; exact (Int.ofNat_tdiv G rd).symm
      have eb1 : (G : Int).tmod (rd : Int) = (b : Int) := by rw [← hb]; exact (Int.ofNat_tmod G rd).symm
      have ec1 : (rn : Int).tdiv (rd : Int) = (cq : Int) := by rw [← hcq]; exact (Int.ofNat_tdiv rn rd).symm
      have ed1 : (rn : Int).tmod (rd : Int) = (dq : Int) := by rw [← hdq]; exact (Int.ofNat_tmod rn rd).symm
      rw [hq, hb, hcq, hdq] at hd
      obtain ⟨P1, hP1⟩ : ∃ A : Nat, b * ld = A := ⟨_, rfl⟩
      obtain ⟨P2, hP2⟩ : ∃ A : Nat, dq * X = A := ⟨_, rfl⟩
      obtain ⟨P3, hP3⟩ : ∃ A : Nat, cq * X = A := ⟨_, rfl⟩
      have e1 : (b : Int) * (ld : Int) = (P1 : Int) := by rw [← hP1]; exact (Int.natCast_mul b ld).symm
      have e2 : (dq : Int) * (X : Int) = (P2 : Int) := by rw [← hP2]; exact (Int.natCast_mul dq X).symm
      have e3 : (cq : Int) * (X : Int) = (P3 : Int) := by rw [← hP3]; exact (Int.natCast_mul cq X).symm
      have b1 : P1 ≤ 120 * 1073741824 := by rw [← hP1]; exact Nat.mul_le_mul (by omega) l2
      have b2 : P2 ≤ 120 * 1073741824 := by rw [← hP2]; exact Nat.mul_le_mul (by omega) (by omega)
      have b3 : P3 ≤ 1073741824 * 1073741824 := by rw [← hP3]; exact Nat.mul_le_mul (by omega) (by omega)
      rw [hP1, hP2, hP3] at hd
      obtain ⟨eqn, hE⟩ : ∃ q : Nat, P3 / ld = q := ⟨_, rfl⟩
      obtain ⟨fr, hF⟩ : ∃ b : Nat, P3 % ld = b := ⟨_, rfl⟩
      have hEb : eqn ≤ P3 := by rw [← hE]; exact Nat.div_le_self _ _
      have hFb : fr < ld := by rw [← hF]; exact Nat.mod_lt _ (by omega)
      have e4 : (P3 : Int).tdiv (ld : Int) = (eqn : Int) := by rw [← hE]; exact (Int.ofNat_tdiv P3 ld).symm
      have e5 : (P3 : Int).tmod (ld : Int) = (fr : Int) := by rw [← hF]; exact (Int.ofNat_tmod P3 ld).symm
      rw [hE, hF] at hd
      obtain ⟨P4, hP4⟩ : ∃ A : Nat, fr * rd = A := ⟨_, rfl⟩
      have e6 : (fr : Int) * (rd : Int) = (P4 : Int) := by rw [← hP4]; exact (Int.natCast_mul fr rd).symm
      have b4 : P4 ≤ 1073741824 * 120 := by rw [← hP4]; exact Nat.mul_le_mul (by omega) (by omega)
      obtain ⟨D, hD⟩ : ∃ A : Nat, rd * ld = A := ⟨_, rfl⟩
      have e7 : (rd : Int) * (ld : Int) = (D : Int) := by rw [← hD]; exact (Int.natCast_mul rd ld).symm
      have b5 : D ≤ 120 * 1073741824 := by rw [← hD]; exact Nat.mul_le_mul (by omega) l2
      have hD1 : 1 ≤ D := by rw [← hD]; exact Nat.mul_pos r1 l1
      rw [hP4, hD] at hd
      obtain ⟨R1, hR1⟩ : ∃ A : Nat, P1 + P2 = A := ⟨_, rfl⟩
      obtain ⟨R2, hR2⟩ : ∃ A : Nat, R1 + P4 = A := ⟨_, rfl⟩
      obtain ⟨Q1, hQ1⟩ : ∃ A : Nat, q + eqn = A := ⟨_, rfl⟩
      have e8 : (P1 : Int) + (P2 : Int) = (R1 : Int) := by omega
      have e9 : (R1 : Int) + (P4 : Int) = (R2 : Int) := by omega
      have e10 : (q : Int) + (eqn : Int) = (Q1 : Int) := by omega
      rw [hR1, hR2, hQ1] at hd
      unfold upN at hd
      obtain ⟨R3, hR3⟩ : ∃ A : Nat, R2 + D - 1 = A := ⟨_, rfl⟩
      obtain ⟨RD, hRD⟩ : ∃ A : Nat, R2 + D = A := ⟨_, rfl⟩
      have eRD : (R2 : Int) + (D : Int) = (RD : Int) := by omega
      have e11 : (RD : Int) - 1 = (R3 : Int) := by omega
      have wRD : IntKind.i64.wrap (RD : Int) = (RD : Int) := IntWalk.i64_in _ ⟨by omega, by omega⟩
      rw [hR3] at hd
      obtain ⟨V, hV⟩ : ∃ A : Nat, R3 / D = A := ⟨_, rfl⟩
      have e12 : (R3 : Int).tdiv (D : Int) = (V : Int) := by rw [← hV]; exact (Int.ofNat_tdiv R3 D).symm
      have e13 : (R3 : Int) / (D : Int) = (V : Int) := by rw [← hV]; exact (Int.natCast_ediv R3 D).symm
      have hVb : V ≤ R3 := by rw [← hV]; exact Nat.div_le_self _ _
      rw [hV] at hd
      have ev : (Q1 : Int) + (V : Int) = z := by rw [← hz]; show _ = ((paceN rn rd ln ld k : Nat) : Int); rw [← hd]; omega
      have n4 : ¬ (D : Int) = 0 := by omega
      have n5 : ¬ D = 0 := by omega
      have hzb : -4611686018427387904 ≤ z ∧ z ≤ 4611686018427387904 := by omega
      obtain ⟨hzb1, hzb2⟩ := hzb
      have wD : IntKind.i64.wrap (D : Int) = (D : Int) := IntWalk.i64_in _ ⟨by omega, by omega⟩
      have wV : IntKind.i64.wrap (V : Int) = (V : Int) := IntWalk.i64_in _ ⟨by omega, by omega⟩
      have wz : IntKind.i64.wrap z = z := IntWalk.i64_in _ ⟨by omega, by omega⟩
      have wR3 : IntKind.i64.wrap (R3 : Int) = (R3 : Int) := IntWalk.i64_in _ ⟨by omega, by omega⟩
      clear hd hG hq hb hcq hdq hP1 hP2 hP3 hE hF hP4 hD hR1 hR2 hQ1 hR3 hV hz hj hM hX hRD
      go_upto_region 15 with fail
      go_quiet (fail)
      go_upto_region 16 with fail
      go_quiet (fail)
      go_upto_region 17 with fail
      go_quiet (fail)
      go_upto_region 19 with fail
      generalize hd1 : wk.drewN _ = u5
      have Q0 := Lib.hid (show Bq2 W O rd rn (paceF rn rd ln ld) k g cap u5.drew by rw [← hd1]; exact (HS.out.drewN _).drew)
      have KS8 := Lib.hid (show ∀ u, Bq2 W O rd rn (paceF rn rd ln ld) k g cap u → (fun u => (u.cell? ⟨O, 0, none⟩ = some (.slice (some ⟨g, 0, none⟩) k cap))) u from fun u hu => hu.out.c0)
      obtain ⟨u6, hu6⟩ : ∃ u, u5.drew = u := ⟨_, rfl⟩
      rw [hu6] at Q0
      clear hd1 HS c0 c1 c2 c3
      refine wp_region_keeps (fun u => (u.cell? ⟨O, 0, none⟩ = some (.slice (some ⟨g, 0, none⟩) k cap))) 11 3 (by kernel_rfl) (by kernel_rfl) (by rw [hu6]; exact KS8.out _ Q0.out) (fun hHeld0 => ?_)
      rw [hu6] at hHeld0 ⊢
      refine wpAnyK_take (i := 0) (v := ?_) rfl (by kernel_rfl) (fun _ _ _ h => h) (Or.inl ⟨by rfl, ?_⟩) (by assumption) ?_
      rotate_left
      · (intro w hSw; (try dsimp only at hSw); go_simp; try with_reducible rfl)
      try simp only [Act.put, List.getElem_toArray, List.getElem_cons_zero, List.getElem_cons_succ, List.setIfInBounds_toArray, List.set_cons_zero, List.set_cons_succ]
      refine wpAnyK_take (i := 1) (v := ?_) rfl (by kernel_rfl) (fun _ _ _ h => h) (Or.inl ⟨by rfl, ?_⟩) (by assumption) ?_
      rotate_left
      · (intro w hSw; (try dsimp only at hSw); go_simp; try with_reducible rfl)
      try simp only [Act.put, List.getElem_toArray, List.getElem_cons_zero, List.getElem_cons_succ, List.setIfInBounds_toArray, List.set_cons_zero, List.set_cons_succ]
      refine wpAnyK_take (i := 2) (v := ?_) rfl (by kernel_rfl) (fun _ _ _ h => h) (Or.inl ⟨by rfl, ?_⟩) (by assumption) ?_
      rotate_left
      · (intro w hSw; (try dsimp only at hSw); go_simp; try with_reducible rfl)
      try simp only [Act.put, List.getElem_toArray, List.getElem_cons_zero, List.getElem_cons_succ, List.setIfInBounds_toArray, List.set_cons_zero, List.set_cons_succ]
      refine wpAnyK_take (i := 3) (v := ?_) rfl (by kernel_rfl) (fun _ _ _ h => h) (Or.inl ⟨by rfl, ?_⟩) (by assumption) ?_
      rotate_left
      · (intro w hSw; (try dsimp only at hSw); go_simp; try with_reducible rfl)
      try simp only [Act.put, List.getElem_toArray, List.getElem_cons_zero, List.getElem_cons_succ, List.setIfInBounds_toArray, List.set_cons_zero, List.set_cons_succ]
      refine wpAnyK_take (i := 4) (v := ?_) rfl (by kernel_rfl) (fun _ _ _ h => h) (Or.inl ⟨by rfl, ?_⟩) (by assumption) ?_
      rotate_left
      · (intro w hSw; (try dsimp only at hSw); go_simp; try with_reducible rfl)
      try simp only [Act.put, List.getElem_toArray, List.getElem_cons_zero, List.getElem_cons_succ, List.setIfInBounds_toArray, List.set_cons_zero, List.set_cons_succ]
      refine wpAnyK_take (i := 5) (v := ?_) rfl (by kernel_rfl) (fun _ _ _ h => h) (Or.inl ⟨by rfl, ?_⟩) (by assumption) ?_
      rotate_left
      · (intro w hSw; (try dsimp only at hSw); go_simp; try with_reducible rfl)
      try simp only [Act.put, List.getElem_toArray, List.getElem_cons_zero, List.getElem_cons_succ, List.setIfInBounds_toArray, List.set_cons_zero, List.set_cons_succ]
      refine wpAnyK_take (i := 6) (v := ?_) rfl (by kernel_rfl) (fun _ _ _ h => h) (Or.inl ⟨by rfl, ?_⟩) (by assumption) ?_
      rotate_left
      · (intro w hSw; (try dsimp only at hSw); go_simp; try with_reducible rfl)
      try simp only [Act.put, List.getElem_toArray, List.getElem_cons_zero, List.getElem_cons_succ, List.setIfInBounds_toArray, List.set_cons_zero, List.set_cons_succ]
      refine wpAnyK_take (i := 7) (v := ?_) rfl (by kernel_rfl) (fun _ _ _ h => h) (Or.inl ⟨by rfl, ?_⟩) (by assumption) ?_
      rotate_left
      · (intro w hSw; (try dsimp only at hSw); go_simp; try with_reducible rfl)
      try simp only [Act.put, List.getElem_toArray, List.getElem_cons_zero, List.getElem_cons_succ, List.setIfInBounds_toArray, List.set_cons_zero, List.set_cons_succ]
      refine wpAnyK_take (i := 8) (v := ?_) rfl (by kernel_rfl) (fun _ _ _ h => h) (Or.inl ⟨by rfl, ?_⟩) (by assumption) ?_
      rotate_left
      · (intro w hSw; (try dsimp only at hSw); go_simp; try with_reducible rfl)
      try simp only [Act.put, List.getElem_toArray, List.getElem_cons_zero, List.getElem_cons_succ, List.setIfInBounds_toArray, List.set_cons_zero, List.set_cons_succ]
      refine wpAnyK_take (i := 9) (v := ?_) rfl (by kernel_rfl) (fun _ _ _ h => h) (Or.inl ⟨by rfl, ?_⟩) (by assumption) ?_
      rotate_left
      · (intro w hSw; (try dsimp only at hSw); go_simp; try with_reducible rfl)
      try simp only [Act.put, List.getElem_toArray, List.getElem_cons_zero, List.getElem_cons_succ, List.setIfInBounds_toArray, List.set_cons_zero, List.set_cons_succ]
      refine wpAnyK_step (i := 10) rfl (by kernel_rfl) (fun K hK => ?_)
      go_simp
      refine hK.out _ _ (KS8.out _ (Q0.out.alloc _)) (fun hHeld1 => ?_)
      clear hK K hHeld0
      try simp only [Act.put, List.getElem_toArray, List.getElem_cons_zero, List.getElem_cons_succ, List.setIfInBounds_toArray, List.set_cons_zero, List.set_cons_succ]
      refine wpAnyK_done (by kernel_rfl) ?_
      simp only [List.drop_succ_cons, List.drop_zero]
      have HN7 : Hid (∀ j u, [Value.int .i64 z][j]? = some u → (u6.alloc (.cells #[.int .i64 z] 3)).cell? ((⟨u6.heap.size, 0, none⟩ : Addr).add j) = some u) := Lib.hid (World.news_of_block (cs := #[.int .i64 z]) (t := 3) (fr := (0, 0)) (heap_alloc_new u6 _))
      have Q7 := Lib.hid (Q0.out.alloc (.cells #[.int .i64 z] 3))
      clear hHeld1
      obtain ⟨b7, hb7⟩ : ∃ b, u6.heap.size = b := ⟨_, rfl⟩
      rw [hb7] at HN7 ⊢
      generalize u6.alloc (.cells #[.int .i64 z] 3) = w7 at HN7 Q7 ⊢
      clear hb7
      go_wp2_with (at_builtin; refine wpList_append_lies _ rfl _ _ 27 rfl W.heap.size 3 i0 (.int .i64 0) 1 8 Try.underlying27 hi0 hz0 hz1 hz2 rfl (by decide) (.slice (some ⟨g, 0, none⟩) k cap) k ((firsts (paceF rn rd ln ld) k).map (Value.int .i64)) rfl Q7.out.own ⟨b7, 0, none⟩ 1 1 [.int .i64 z] rfl rfl HN7.out ?l2 (by omega) ?l3 ?l4 ?l5 _ rfl ?_)
      case l2 => first | rfl | (intro u hu; simp at hu; subst hu; rfl)
      case l3 => unfold maxLen; omega
      case l4 => omega
      case l5 => exact Q7.out.below.size
      intro g2 cap2 w8 hown1 hgrow hat hlt8
      have hbox8 := Q7.out.out.grownS hgrow Q7.out.ne
      have Q8 := Lib.hid (Q7.out.push hown1 hgrow (hatOf hat) HZ.out)
      clear hown1 hgrow hat hlt8
      obtain ⟨d0, d1, d2, e0, e1', e2'⟩ := hbox8
      go_wp2_with fail
      go_roundw
      case rel => exact ⟨k + 1, g2, cap2, by go_num, by omega, by omega, Q8⟩
      case measure => simp [intOf]; omega
    · have hl2 : ¬ (k : Int) < (fs : Int) + (rd : Int) := by omega
      obtain rfl : k = fs + rd := by omega
      have hin : ∀ t, t < fs + rd → In64 ((paceF rn rd ln ld) t) := fun t ht => HIN.out t (by omega)
      have RLAST := Lib.hid (HS.out.row (by omega) (by omega) hin)
      have HBL := Lib.hid (HB2.out.trans (HS.out.below.mono HB2.out.size))
      have KRL := Lib.hid (HR2.out.below HS.out.below)
      obtain ⟨o0, o1, o2, o3, o4, o5⟩ := HS.out.out
      clear hin
      go_wp2_with fail
      have HRAW := Lib.hid (pace_raw (rn := rn) (rd := rd) (ln := ln) (ld := ld) (f := fs) r1 (by omega) l1 r0 HFS.out.1 (by omega))
      refine (rmade_ok _ _ _ _ _ _ HRAW.out _ RLAST.out).mono ?_
      rintro e v9 hg9
      obtain ⟨a, n, cap9, rfl, hb, hr, hx⟩ := H2.out.ce hg9
      have HQ := Lib.hid (GivesCE.post (b := w.heap.size + 1) (p := p) (inc := inc) (c := c) HBL.out (Nat.le_succ _) KRL.out.lt hb hr hx)
      obtain ⟨r0, r1, r2, r3, r4, r5⟩ := KRL.out.below hb
      clear hb hr hx hg9
      go_wp2_with fail
      exact bodyPost_ret (v := .tuple #[curV a n cap9 p inc, .int .i64 c]) (by simp [results, Try.results22, go_sem, r0, r1, r2]) rfl HQ.out


set_option maxRecDepth 100000 in
set_option maxHeartbeats 1600000 in
theorem rpace_ce {rn rd ln ld : Int} {zs : List Int} {p inc c : Int} (h : PaceIs rn rd ln ld zs p inc c) (w : World) :
    Calls Try.prog 22 #[bucketV rn rd ln ld] w (GivesCE zs p inc c w) := by
  rcases h with ⟨h1, h2⟩ | ⟨h1, rfl, rfl, rfl, rfl⟩
  · have h1' := h1
    rw [Bool.and_eq_true] at h1'
    obtain ⟨x1, x2, rfl, rfl, m1, m2, m3⟩ := okB_nat h1'.1
    obtain ⟨x3, x4, rfl, rfl, m4, m5, m6⟩ := okB_nat h1'.2
    rw [Int.toNat_natCast, Int.toNat_natCast, Int.toNat_natCast, Int.toNat_natCast] at h2
    exact rpace_ok h1 h2 w
  · obtain ⟨W0, hW⟩ : ∃ W, (w.alloc (.cells #[.int .i64 rn, .int .i64 rd, .int .i64 ln, .int .i64 ld] 25)).alloc (.cells #[.slice none 0 0, .int .i64 0, .int .i64 0] 38) = W := ⟨_, rfl⟩
    obtain ⟨hX, hR, hB⟩ := pace_boxes w rn rd ln ld hW
    have HX := Lib.hid hX
    have HR := Lib.hid hR
    have HB := Lib.hid hB
    have HW := Lib.hid hW
    clear hX hR hB hW
    have H1 := Lib.hid h1
    clear h1
    go_enter Try.func22, Try.ntmps22
    go_upto_region 1 with fail
    rw [HW.out]
    obtain ⟨c0, c1, c2, c3⟩ := HX.out
    go_wp2_with fail
    clear c0 c1 c2 c3
    refine (rgood2_any _ _ _ _ _ H1.out _).mono ?_
    rintro e u1 ⟨rfl, hb⟩
    have HX1 := Lib.hid (HX.out.below hb)
    have HR1 := Lib.hid (HR.out.below hb)
    have HB1 := Lib.hid (HB.out.trans (hb.mono HB.out.size))
    clear hb
    obtain ⟨e0, e1, e2, e3, e4, e5⟩ := HR1.out
    go_wp2_with fail
    exact bodyPost_ret (v := .tuple #[curV none 0 0 0 0, .int .i64 2]) (by simp [results, Try.results22, go_sem, e0, e1, e2]) rfl (GivesCE.postBad (b := w.heap.size + 1) HB1.out (Nat.le_succ _) 2)

end Go.Proofs.Ytjipmkgnndldpaa

namespace Go.Proofs.Ytjipmkgnndldpaa
open Go.RowKit
set_option linter.unusedSimpArgs false
set_option linter.unusedVariables false

theorem chainF_n {bs : List Bkt} {k : Nat} (h : (chainF bs k).c = 0) {b : Bkt} (hb : bs[k + 1]? = some b) {m n : Int} (hr : (if compareF b.bn b.bd (chainF bs k).rn (chainF bs k).rd < 0 then (b.bn, b.bd) else ((chainF bs k).rn, (chainF bs k).rd)) = (m, n)) {sn sd se : Int} (hs : addF (chainF bs k).ln (chainF bs k).ld b.rn b.rd = (sn, sd, se)) :
    chainF bs (k + 1) = if se = 0 then ⟨m, n, sn, sd, 0⟩ else ⟨0, 0, 0, 0, se⟩ := by
  rw [chainF_c0 h hb]
  unfold linkA
  dsimp only
  rw [hs]
  dsimp only
  by_cases h0 : se = 0
  · rw [if_pos h0, if_pos h0]
    by_cases hc : compareF b.bn b.bd (chainF bs k).rn (chainF bs k).rd < 0
    · rw [if_pos hc] at hr ⊢; cases hr; rfl
    · rw [if_neg hc] at hr ⊢; cases hr; rfl
  · rw [if_neg h0, if_neg h0]
theorem Pq4.put01 {w : World} {p : Nat} {x0 x1 x2 x3 : Int} (h : Pq4 w p x0 x1 x2 x3) (x y : Int) : Pq4 ((w.setCell ⟨p, 0, none⟩ (.int .i64 x)).setCell ⟨p, 1, none⟩ (.int .i64 y)) p x y x2 x3 := by
  obtain ⟨c0, c1, c2, c3, f0, f1, f2, f3⟩ := h
  exact ⟨by go_simp, by go_simp, by go_simp, by go_simp, by go_simp, by go_simp, by go_simp, by go_simp⟩
theorem Pq4.put23 {w : World} {p : Nat} {x0 x1 x2 x3 : Int} (h : Pq4 w p x0 x1 x2 x3) (x y : Int) : Pq4 ((w.setCell ⟨p, 2, none⟩ (.int .i64 x)).setCell ⟨p, 3, none⟩ (.int .i64 y)) p x0 x1 x y := by
  obtain ⟨c0, c1, c2, c3, f0, f1, f2, f3⟩ := h
  exact ⟨by go_simp, by go_simp, by go_simp, by go_simp, by go_simp, by go_simp, by go_simp, by go_simp⟩
section
variable {w u v : World} {B : Nat} {bs : List Bkt} {L : Nat} {x0 x1 x2 x3 : Int}
end

end Go.Proofs.Ytjipmkgnndldpaa

namespace Go.Proofs.Ytjipmkgnndldpaa
open Go.RowKit
set_option linter.unusedSimpArgs false
set_option linter.unusedVariables false

set_option maxRecDepth 100000 in
set_option maxHeartbeats 6400000 in
theorem rmax_lim (a1 : Option Addr) (n1 cap1 : Nat) (z1 : List Int) (p1 : Nat) (i1 : Int) (g1 : Good z1 p1 i1) (a2 : Option Addr) (n2 cap2 : Nat) (z2 : List Int) (p2 : Nat) (i2 : Int) (g2 : Good z2 p2 i2) (L : Nat) (hL : LcmN z1 p1 i1 z2 p2 i2 L) (hL2 : 120 < L) (w : World) (h1 : RowZ w a1 n1 cap1 z1) (h2 : RowZ w a2 n2 cap2 z2) :
    Calls Try.prog 50 #[curV a1 n1 cap1 p1 i1, curV a2 n2 cap2 p2 i2] w (GivesBad 3 w) := by
  have HX := Lib.hid (show ∀ u, RowZ u a1 n1 cap1 z1 → RowZ u a2 n2 cap2 z2 → Calls Try.prog 130 #[curV a1 n1 cap1 p1 i1, curV a2 n2 cap2 p2 i2, .bool false] u (GivesBad 3 u) from fun u r1 r2 => rext_lim a1 n1 cap1 z1 p1 i1 g1 a2 n2 cap2 z2 p2 i2 g2 L hL hL2 false u r1 r2)
  obtain ⟨W, hW⟩ : ∃ W, ((w.alloc (.cells #[.slice a1 n1 cap1, .int .i64 p1, .int .i64 i1] 38)).alloc (.cells #[.slice a2 n2 cap2, .int .i64 p2, .int .i64 i2] 38)).alloc (.cells #[.slice none 0 0, .int .i64 0, .int .i64 0] 38) = W := ⟨_, rfl⟩
  obtain ⟨⟨hB, hWs⟩, k1, k2, kr⟩ := boxesB w a1 n1 cap1 p1 i1 a2 n2 cap2 p2 i2 hW
  have HB := Lib.hid hB
  have KR := Lib.hid kr
  have HR := Lib.hid (And.intro (h1.under hB) (h2.under hB))
  have HW := Lib.hid hW
  obtain ⟨m0, m1, m2, m3, m4, m5⟩ := k1
  obtain ⟨u0, u1, u2, u3, u4, u5⟩ := k2
  clear h1 h2 hB kr hW hWs g1 g2 hL
  go_enter Try.func50, Try.ntmps50
  go_upto_region 1 with fail
  try rw [HW.out]
  go_wp2_with fail
  clear m0 m1 m2 m3 m4 m5 u0 u1 u2 u3 u4 u5
  refine (HX.out _ HR.out.1 HR.out.2).mono ?_
  rintro e v2 ⟨rfl, hb2⟩
  have HP := Lib.hid (GivesBad.post (b := w.heap.size + 2) HB.out (by omega) hb2 3)
  obtain ⟨d0, d1, d2, e0, e1, e2⟩ := KR.out.below hb2
  clear hb2
  go_wp2_with fail
  exact bodyPost_ret (v := .tuple #[curV none 0 0 0 0, .int .i64 3]) (by simp [results, Try.results50, go_sem, d0, d1, d2]) rfl HP.out
theorem rmax_ce {a1 : Option Addr} {n1 cap1 : Nat} {z1 : List Int} {p1 : Nat} {i1 : Int} (g1 : Good z1 p1 i1) {a2 : Option Addr} {n2 cap2 : Nat} {z2 : List Int} {p2 : Nat} {i2 : Int} (g2 : Good z2 p2 i2) {zs : List Int} {p inc c : Int} (h : MaxIs z1 p1 i1 z2 p2 i2 zs p inc c) (w : World) (h1 : RowZ w a1 n1 cap1 z1) (h2 : RowZ w a2 n2 cap2 z2) :
    Calls Try.prog 50 #[curV a1 n1 cap1 p1 i1, curV a2 n2 cap2 p2 i2] w (GivesCE zs p inc c w) := by
  obtain ⟨L, hL, ⟨hl, hE⟩ | ⟨hl, rfl, rfl, rfl, rfl⟩⟩ := h
  · exact (rmax_ok a1 n1 cap1 z1 p1 i1 g1 a2 n2 cap2 z2 p2 i2 g2 L hL hl w h1 h2).mono fun _ _ k => hE.ce k
  · exact (rmax_lim a1 n1 cap1 z1 p1 i1 g1 a2 n2 cap2 z2 p2 i2 g2 L hL hl w h1 h2).mono fun _ _ k => k.ce
theorem rmax_rs {r s : Rs} {p q : Nat} (hp : r.p = p) (hq : s.p = q) (g1 : Good r.zs p r.inc) (g2 : Good s.zs q s.inc) (a1 : Option Addr) (n1 cap1 : Nat) (a2 : Option Addr) (n2 cap2 : Nat) (w : World) (h1 : RowZ w a1 n1 cap1 r.zs) (h2 : RowZ w a2 n2 cap2 s.zs) :
    Calls Try.prog 50 #[curV a1 n1 cap1 r.p r.inc, curV a2 n2 cap2 s.p s.inc] w (GivesCE (maxA r s).zs (maxA r s).p (maxA r s).inc (maxA r s).c w) := by
  have h := maxA_is r s p q hp hq g1 g2
  rw [hp, hq]
  exact rmax_ce g1 g2 h w h1 h2
theorem rpace_rs {b : Bkt} (hb : b.ok = true) (w : World) : Calls Try.prog 22 #[bucketV b.bn b.bd b.rn b.rd] w (GivesCE (pacA b).zs (pacA b).p (pacA b).inc (pacA b).c w) :=
  rpace_ce (.inl ⟨hb, pacA_is b⟩) w
theorem docM_stop {bs : List Bkt} {k : Nat} (h : ¬ (docM bs k).c = 0) : ∀ j, docM bs (k + (j + 1)) = Rs.lim
  | 0 => by
    show docM bs (k + 1) = _
    unfold docM
    rw [if_neg h]
  | j + 1 => by
    show docM bs (k + (j + 1) + 1) = _
    unfold docM
    rw [if_neg (by rw [docM_stop h j]; decide)]
theorem docM_late {bs : List Bkt} {k N : Nat} (hk : k ≤ N) (h : ¬ (docM bs k).c = 0) : docM bs N = Rs.lim := by
  rcases Nat.eq_or_lt_of_le hk with rfl | hlt
  · exact (docM_ok bs k).of h
  · obtain ⟨j, rfl⟩ : ∃ j, N = k + (j + 1) := ⟨N - k - 1, by omega⟩
    exact docM_stop h j
end Go.Proofs.Ytjipmkgnndldpaa

namespace Go.Proofs.Ytjipmkgnndldpaa
open Go.RowKit
set_option linter.unusedSimpArgs false
set_option linter.unusedVariables false

/-- The document's pace so far in box L, the list of paces, the empty result. -/
structure DpC (w wx : World) (B off : Nat) (bs : List Bkt) (L : Nat) (x0 x1 x2 x3 : Int) : Prop where
  res : Pq4 wx w.heap.size 0 0 0 0
  box : Pq4 wx L x0 x1 x2 x3
  row : RowC wx B off bs
  lt : w.heap.size < L
  ne : B ≠ L
  below : Below w.heap.size w wx
section
variable {w u v : World} {B off : Nat} {bs : List Bkt} {L : Nat} {x0 x1 x2 x3 : Int}
theorem DpC.call (h : DpC w u B off bs L x0 x1 x2 x3) (hb : Below u.heap.size u v) : DpC w v B off bs L x0 x1 x2 x3 :=
  ⟨h.res.below hb, h.box.below hb, h.row.under hb, h.lt, h.ne, h.below.trans (hb.mono h.below.size)⟩
theorem DpC.put01 (h : DpC w u B off bs L x0 x1 x2 x3) (x y : Int) : DpC w ((u.setCell ⟨L, 0, none⟩ (.int .i64 x)).setCell ⟨L, 1, none⟩ (.int .i64 y)) B off bs L x y x2 x3 := by
  have hl := h.lt
  exact ⟨(h.res.other (by omega) _ _).other (by omega) _ _, h.box.put01 x y, (h.row.other h.ne _ _).other h.ne _ _, hl, h.ne, (h.below.setCell (p := ⟨L, 0, none⟩) (by show w.heap.size ≤ L; omega) _).setCell (p := ⟨L, 1, none⟩) (by show w.heap.size ≤ L; omega) _⟩
theorem DpC.put23 (h : DpC w u B off bs L x0 x1 x2 x3) (x y : Int) : DpC w ((u.setCell ⟨L, 2, none⟩ (.int .i64 x)).setCell ⟨L, 3, none⟩ (.int .i64 y)) B off bs L x0 x1 x y := by
  have hl := h.lt
  exact ⟨(h.res.other (by omega) _ _).other (by omega) _ _, h.box.put23 x y, (h.row.other h.ne _ _).other h.ne _ _, hl, h.ne, (h.below.setCell (p := ⟨L, 2, none⟩) (by show w.heap.size ≤ L; omega) _).setCell (p := ⟨L, 3, none⟩) (by show w.heap.size ≤ L; omega) _⟩
end

set_option maxRecDepth 100000 in
set_option maxHeartbeats 6400000 in
theorem rchainC (B off K cap : Nat) (bs : List Bkt) (hk : bs.length = K) (hK : K ≤ 1000) (hcap : K ≤ cap) (w : World) (h : RowC w B off bs) :
    Calls Try.prog 27 #[.slice (some ⟨B, off, none⟩) K cap] w (GivesPk (chainA bs) w) := by
  have KR := Lib.hid (Pq4.new w 0 0 0 0 25)
  have hB := below_box (w := w) (.cells #[.int .i64 0, .int .i64 0, .int .i64 0, .int .i64 0] 25)
  have HL := Lib.hid (h.under hB)
  have HB := Lib.hid hB
  have HK := Lib.hid hk
  clear h hB
  obtain ⟨ans, hans⟩ : ∃ r, chainA bs = r := ⟨_, rfl⟩
  rw [hans]
  have HA := Lib.hid hans
  clear hans
  obtain ⟨W, hW⟩ : ∃ W, w.alloc (.cells #[.int .i64 0, .int .i64 0, .int .i64 0, .int .i64 0] 25) = W := ⟨_, rfl⟩
  have HWS := Lib.hid (show W.heap.size = w.heap.size + 1 by rw [← hW]; simp)
  rw [hW] at KR HL HB
  have HW := Lib.hid hW
  clear hW hk
  go_enter Try.func27, Try.ntmps27
  go_upto_region 1 with fail
  rw [HW.out]
  clear HW
  go_wp2_with fail
  go_loopw [4] (fun s4 wx => ∃ k : Nat, s4 = .int .i64 k ∧ k ≤ K ∧ Hid (∀ (i : Nat) (b : Bkt), i < k → bs[i]? = some b → b.ok = true) ∧ Hid (Below W.heap.size W wx)) (fun s4 _ => K - (intOf s4).toNat)
  case atStart => exact ⟨0, by go_num, Nat.zero_le _, fun i b hi => absurd hi (Nat.not_lt_zero _), Below.refl _ _⟩
  case round =>
    obtain ⟨k, rfl, hk, hall, HX⟩ := hrel
    obtain ⟨wk, rfl⟩ : ∃ u : World, u = wr := ⟨_, rfl⟩
    by_cases hlt : k < K
    · obtain ⟨b, hc⟩ : ∃ b, bs[k]? = some b := ⟨_, List.getElem?_eq_getElem (by have := HK.out; omega)⟩
      obtain ⟨ok, hok⟩ : ∃ o, b.ok = o := ⟨_, rfl⟩
      have HC := Lib.hid (And.intro hc hok)
      have HOK := Lib.hid (show (okB b.bn b.bd && okB b.rn b.rd) = ok from hok)
      have hki : (k : Int) < (K : Int) := by omega
      clear hc hok
      go_upto_region 4 with fail
      have HX1 := Lib.hid (HX.out.trans ((Below.refl wk.heap.size wk).drew.mono HX.out.size))
      obtain ⟨y0, y1, y2, y3⟩ := (HL.out.under HX1.out).at0 HC.out.1
      go_cut [25] (fun s25 wx => s25 = .bool (!ok) ∧ Hid (Below W.heap.size W wx))
      case first =>
        go_region_with (go_at_call 97; (with_reducible refine (rgood2_any b.bn b.bd b.rn b.rd ok HOK.out _).mono ?_); rintro e x1 ⟨rfl, hb⟩; have HX2 := Lib.hid (HX1.out.trans (hb.mono HX1.out.size)); clear hb)
        all_goals
          go_wp2_with fail
          go_meet
          exact ⟨rfl, HX2⟩
      case rest =>
      obtain ⟨rfl, HX2⟩ := hcut
      obtain ⟨w2, rfl⟩ : ∃ u : World, u = wc := ⟨_, rfl⟩
      clear y0 y1 y2 y3 HX HX1
      cases ok with
      | false =>
        have HZ := Lib.hid (HA.out.symm.trans (chainA_bad (badL_of HC.out.1 HC.out.2)))
        obtain ⟨e0, e1, e2, e3, e4, e5, e6, e7⟩ := KR.out.below HX2.out
        go_wp2_with fail
        refine bodyPost_ret (v := .tuple #[bucketV 0 0 0 0, .int .i64 2]) (by simp [results, Try.results27, go_sem, e0, e1, e2, e3, e4, e5, e6, e7]) rfl ?_
        rw [HZ.out]; exact ⟨rfl, svbelow4 (HB.out.trans (HX2.out.mono HB.out.size)) (Nat.le_refl _) _ _ _ _⟩
      | true =>
        have hall2 := Lib.hid (show ∀ (i : Nat) (c : Bkt), i < k + 1 → bs[i]? = some c → c.ok = true from fun i c hi hcc => by
          by_cases he : i = k
          · subst he; rw [HC.out.1] at hcc; cases hcc; exact HC.out.2
          · exact hall.out i c (by omega) hcc)
        go_wp2_with fail
        go_roundw
        case rel => exact ⟨k + 1, by go_num, by omega, hall2, HX2⟩
        case measure => simp [intOf]; omega
    · obtain rfl : k = K := by omega
      have hki : ¬ (k : Int) < (k : Int) := by omega
      have HBD := Lib.hid (badL_not (fun i b hb => hall.out i b (by have := (List.getElem?_eq_some_iff.1 hb).1; have := HK.out; omega) hb))
      by_cases h00 : k = 0
      · have HZ := Lib.hid (HA.out.symm.trans (chainA_zero (by have := HK.out; omega)))
        have h0b : ((k : Int) == 0) = true := by simpa using h00
        clear h00
        obtain ⟨e0, e1, e2, e3, e4, e5, e6, e7⟩ := KR.out.below HX.out
        go_wp2_with fail
        refine bodyPost_ret (v := .tuple #[bucketV 0 0 0 0, .int .i64 2]) (by simp [results, Try.results27, go_sem, e0, e1, e2, e3, e4, e5, e6, e7]) rfl ?_
        rw [HZ.out]; exact ⟨rfl, svbelow4 (HB.out.trans (HX.out.mono HB.out.size)) (Nat.le_refl _) _ _ _ _⟩
      obtain ⟨K, hKK⟩ : ∃ n, k = n := ⟨_, rfl⟩
      rw [hKK] at HK hK hcap h00 hki ⊢
      clear hKK hall
      have h0b : ((K : Int) == 0) = false := by simpa using h00
      have h0i : ¬ (K : Int) = 0 := by omega
      have h0 : 1 ≤ K := by omega
      have HANS := Lib.hid (HA.out.symm.trans (chainA_fold (by have := HK.out; omega) HBD.out))
      obtain ⟨b0, hb0⟩ : ∃ b, bs[0]? = some b := ⟨_, List.getElem?_eq_getElem (by have := HK.out; omega)⟩
      have HR0 := Lib.hid (show chainF bs 0 = ⟨b0.bn, b0.bd, b0.rn, b0.rd, 0⟩ by unfold chainF; rw [getD_some hb0])
      obtain ⟨c0, c1, c2, c3⟩ := (HL.out.under HX.out).at0 hb0
      simp only [Nat.zero_mul, Nat.add_zero] at c0 c1 c2 c3
      obtain ⟨w3, hw⟩ : ∃ w', wk.alloc (.cells #[.int .i64 b0.bn, .int .i64 b0.bd, .int .i64 b0.rn, .int .i64 b0.rd] 25) = w' := ⟨_, rfl⟩
      have hz : Below wk.heap.size wk w3 := by rw [← hw]; exact below_box _
      have hBw : B < wk.heap.size := lt_of_cell c0
      have S0 := Lib.hid (show DpC w w3 B off bs wk.heap.size b0.bn b0.bd b0.rn b0.rd from ⟨(KR.out.below HX.out).below hz, by rw [← hw]; exact Pq4.new _ _ _ _ _ _, (HL.out.under HX.out).under hz, by have h1 := (KR.out.below HX.out).lt; exact h1, by omega, (HB.out.trans (HX.out.mono HB.out.size)).trans (hz.mono (HB.out.trans (HX.out.mono HB.out.size)).size)⟩)
      have HW3 := Lib.hid hw
      clear hw hz hBw hb0 h00
      go_upto_region 9 with fail
      try rw [HW3.out]
      obtain ⟨L, hL⟩ : ∃ L, wk.heap.size = L := ⟨_, rfl⟩
      rw [hL] at S0
      try rw [hL]
      clear HW3 hL c0 c1 c2 c3 hki hlt
      go_wp2_with fail
      go_loopw [6] (fun s6 wx => ∃ (k : Nat) (r : Pk), s6 = .int .i64 ((k + 1 : Nat) : Int) ∧ r.c = 0 ∧ k + 1 ≤ K ∧ Hid (chainF bs k = r) ∧ Hid (DpC w wx B off bs L r.rn r.rd r.ln r.ld)) (fun s6 _ => K - (intOf s6).toNat)
      case atStart => exact ⟨0, ⟨b0.bn, b0.bd, b0.rn, b0.rd, 0⟩, by go_num, rfl, h0, HR0, S0⟩
      case round =>
        obtain ⟨k, r, rfl, hc0, hk, HF, HS⟩ := hrel
        obtain ⟨wk, rfl⟩ : ∃ u : World, u = wr := ⟨_, rfl⟩
        obtain ⟨j, hj⟩ : ∃ j : Nat, k + 1 = j := ⟨_, rfl⟩
        have hjj : ((k + 1 : Nat) : Int) = (j : Int) := by omega
        rw [hjj]
        by_cases hlt : j < K
        · obtain ⟨b, hb⟩ : ∃ b, bs[k + 1]? = some b := ⟨_, List.getElem?_eq_getElem (by have := HK.out; omega)⟩
          have hki : (j : Int) < (K : Int) := by omega
          have hkd : decide ((j : Int) < (K : Int)) = true := decide_eq_true hki
          obtain ⟨cm, hcm⟩ : ∃ c, compareF b.bn b.bd r.rn r.rd = c := ⟨_, rfl⟩
          obtain ⟨⟨sn, sd, se⟩, hsm⟩ : ∃ s, addF r.ln r.ld b.rn b.rd = s := ⟨_, rfl⟩
          obtain ⟨⟨m, n⟩, hmn⟩ : ∃ s, (if cm < 0 then (b.bn, b.bd) else (r.rn, r.rd)) = s := ⟨_, rfl⟩
          have HNX := Lib.hid (show chainF bs (k + 1) = if se = 0 then ⟨m, n, sn, sd, 0⟩ else ⟨0, 0, 0, 0, se⟩ from chainF_n (by rw [HF.out]; exact hc0) hb (by rw [HF.out, hcm]; exact hmn) (by rw [HF.out]; exact hsm))
          have HCM := Lib.hid hcm
          have HSM := Lib.hid hsm
          have HMN := Lib.hid hmn
          have HBK := Lib.hid (show bs[j]? = some b by rw [← hj]; exact hb)
          have HJ := Lib.hid hj
          clear hcm hsm hmn hb hc0 hj hjj
          -- the comparison
          go_upto_region 12 with fail
          have S1 := Lib.hid (HS.out.call (Below.refl wk.heap.size wk).drew)
          obtain ⟨y0, y1, y2, y3⟩ := S1.out.row.at0 HBK.out
          obtain ⟨d0, d1, d2, d3, _, _, _, _⟩ := S1.out.box
          go_cut [48] (fun s48 wx => s48 = .bool (decide (cm < 0)) ∧ Hid (DpC w wx B off bs L r.rn r.rd r.ln r.ld))
          case first =>
            go_region_with (go_at_call 32; (with_reducible refine (rcompare_all b.bn b.bd r.rn r.rd _).mono ?_); rintro e x1 ⟨rfl, hb⟩; rw [HCM.out]; have S2 := Lib.hid (S1.out.call hb); clear hb)
            all_goals
              go_wp2_with fail
              go_meet
              exact ⟨rfl, S2⟩
          case rest =>
          obtain ⟨rfl, S2⟩ := hcut
          obtain ⟨w2, rfl⟩ : ∃ u : World, u = wc := ⟨_, rfl⟩
          clear y0 y1 y2 y3 d0 d1 d2 d3 HS S1
          -- the rate
          go_upto_if 48 with fail
          go_cut [] (fun wx => Hid (DpC w wx B off bs L m n r.ln r.ld))
          case first =>
            by_cases hc : cm < 0
            · have hcd : decide (cm < 0) = true := decide_eq_true hc
              have HE := HMN.out
              rw [if_pos hc] at HE
              cases HE
              have S3 := Lib.hid (S2.out.put01 b.bn b.bd)
              obtain ⟨y0, y1, y2, y3⟩ := S2.out.row.at0 HBK.out
              obtain ⟨d0, d1, d2, d3, d4, d5, d6, d7⟩ := S2.out.box
              rw [hcd]
              clear hc hcd
              go_wp2_with fail
              go_meet
              exact S3
            · have hcd : decide (cm < 0) = false := decide_eq_false hc
              have HE := HMN.out
              rw [if_neg hc] at HE
              cases HE
              rw [hcd]
              clear hc hcd
              go_wp2_with fail
              go_meet
              exact S2
          case rest =>
          obtain ⟨w3, rfl⟩ : ∃ u : World, u = wc := ⟨_, rfl⟩
          have S3 := hcut
          clear hcut S2
          -- the latency
          go_upto_region 15 with fail
          have S4 := Lib.hid (S3.out.call (Below.refl w3.heap.size w3).drew)
          obtain ⟨y0, y1, y2, y3⟩ := S4.out.row.at0 HBK.out
          obtain ⟨d0, d1, d2, d3, _, _, _, _⟩ := S4.out.box
          go_cut [7] (fun s7 wx => s7 = .int .i64 se ∧ Hid (DpC w wx B off bs L m n sn sd))
          case first =>
            go_region_with (go_at_call 36; (with_reducible refine (radd_all r.ln r.ld b.rn b.rd _).mono ?_); rintro e x1 ⟨rfl, hb⟩; rw [HSM.out]; have S5 := Lib.hid (S4.out.call hb); clear hb; obtain ⟨g0, g1, g2, g3, g4, g5, g6, g7⟩ := S5.out.box)
            all_goals
              have S6 := Lib.hid (S5.out.put23 sn sd)
              go_wp2_with fail
              go_meet
              exact ⟨rfl, S6⟩
          case rest =>
          obtain ⟨rfl, S6⟩ := hcut
          obtain ⟨w4, rfl⟩ : ∃ u : World, u = wc := ⟨_, rfl⟩
          clear y0 y1 y2 y3 d0 d1 d2 d3 S3 S4
          by_cases hse : se = 0
          · subst hse
            have HN1 := Lib.hid (show chainF bs (k + 1) = ⟨m, n, sn, sd, 0⟩ by rw [HNX.out, if_pos rfl])
            go_wp2_with fail
            go_roundw
            case rel => exact ⟨k + 1, ⟨m, n, sn, sd, 0⟩, by rw [← HJ.out]; go_num, rfl, by have := HJ.out; omega, HN1, S6⟩
            case measure => simp [intOf]; omega
          · have hsb : (se != 0) = true := by simpa using hse
            have hsb2 : (se == 0) = false := by simpa using hse
            have HZ := Lib.hid (show ans = ⟨0, 0, 0, 0, se⟩ by
              have h1 : chainF bs (k + 1) = ⟨0, 0, 0, 0, se⟩ := by rw [HNX.out, if_neg hse]
              have h := chainF_stop (bs := bs) (k := k + 1) (by rw [h1]; exact hse) (bs.length - 1 - (k + 1))
              rw [h1, show k + 1 + (bs.length - 1 - (k + 1)) = bs.length - 1 by have := HK.out; have := HJ.out; omega] at h
              rw [HANS.out, h])
            clear hse
            obtain ⟨e0, e1, e2, e3, e4, e5, e6, e7⟩ := S6.out.res
            go_wp2_with fail
            refine bodyPost_ret (v := .tuple #[bucketV 0 0 0 0, .int .i64 se]) (by simp [results, Try.results27, go_sem, e0, e1, e2, e3, e4, e5, e6, e7]) rfl ?_
            rw [HZ.out]; exact ⟨rfl, svbelow4 S6.out.below (Nat.le_refl _) _ _ _ _⟩
        · have hki : ¬ (j : Int) < (K : Int) := by omega
          have HZ := Lib.hid (show ans = r by rw [HANS.out, ← HF.out, show bs.length - 1 = k by have := HK.out; omega])
          obtain ⟨d0, d1, d2, d3, _, _, _, _⟩ := HS.out.box
          obtain ⟨e0, e1, e2, e3, e4, e5, e6, e7⟩ := HS.out.res
          have hl1 := HS.out.lt
          have hl2 : ¬ w.heap.size = L := by omega
          have hl3 : ¬ L = w.heap.size := by omega
          have HRC := Lib.hid hc0
          go_wp2_with fail
          refine bodyPost_ret (v := .tuple #[bucketV r.rn r.rd r.ln r.ld, .int .i64 0]) (by simp [results, Try.results27, go_sem, e0, e1, e2, e3, e4, e5, e6, e7]) rfl ?_
          rw [HZ.out]
          exact ⟨by rw [HRC.out], svbelow4 HS.out.below (Nat.le_refl _) _ _ _ _⟩

set_option maxRecDepth 100000 in
set_option maxHeartbeats 6400000 in
theorem rbestC (B off K cap : Nat) (bs : List Bkt) (hk : bs.length = K) (hK : K ≤ 1000) (hcap : K ≤ cap) (w : World) (h : RowC w B off bs) :
    Calls Try.prog 25 #[.slice (some ⟨B, off, none⟩) K cap] w (GivesCE (bestA bs).zs (bestA bs).p (bestA bs).inc (bestA bs).c w) := by
  have KR := Lib.hid (Cur3.new w (.slice none 0 0) (.int .i64 0) (.int .i64 0) 38)
  have hB := below_box (w := w) (.cells #[.slice none 0 0, .int .i64 0, .int .i64 0] 38)
  have HL := Lib.hid (h.under hB)
  have HB := Lib.hid hB
  have HK := Lib.hid hk
  clear h hB
  obtain ⟨ans, hans⟩ : ∃ r, bestA bs = r := ⟨_, rfl⟩
  rw [hans]
  have HA := Lib.hid hans
  clear hans
  obtain ⟨W, hW⟩ : ∃ W, w.alloc (.cells #[.slice none 0 0, .int .i64 0, .int .i64 0] 38) = W := ⟨_, rfl⟩
  rw [hW] at KR HL HB
  have HW := Lib.hid hW
  clear hW
  by_cases h0 : K = 0
  · have HZ := Lib.hid (HA.out.symm.trans (bestA_zero (by omega)))
    have h0b : ((K : Int) == 0) = true := by simpa using h0
    clear hk h0
    go_enter Try.func25, Try.ntmps25
    go_upto_region 1 with fail
    rw [HW.out]
    obtain ⟨e0, e1, e2, e3, e4, e5⟩ := KR.out
    go_wp2_with fail
    refine bodyPost_ret (v := .tuple #[curV none 0 0 0 0, .int .i64 2]) (by simp [results, Try.results25, go_sem, e0, e1, e2, e3, e4, e5]) rfl ?_
    rw [HZ.out]; exact GivesCE.postBad (b := w.heap.size) HB.out (Nat.le_refl _) 2
  have h0i : ¬ (K : Int) = 0 := by omega
  have h0b : ((K : Int) == 0) = false := by simpa using h0
  by_cases h20 : 20 < K
  · have HZ := Lib.hid (HA.out.symm.trans (bestA_long (by omega)))
    have h20i : (20 : Int) < (K : Int) := by omega
    clear hk
    go_enter Try.func25, Try.ntmps25
    go_upto_region 1 with fail
    rw [HW.out]
    obtain ⟨e0, e1, e2, e3, e4, e5⟩ := KR.out
    go_wp2_with fail
    refine bodyPost_ret (v := .tuple #[curV none 0 0 0 0, .int .i64 3]) (by simp [results, Try.results25, go_sem, e0, e1, e2, e3, e4, e5]) rfl ?_
    rw [HZ.out]; exact GivesCE.postBad (b := w.heap.size) HB.out (Nat.le_refl _) 3
  have h20i : ¬ (20 : Int) < (K : Int) := by omega
  clear hk
  go_enter Try.func25, Try.ntmps25
  go_upto_region 1 with fail
  rw [HW.out]
  clear HW
  go_wp2_with fail
  go_loopw [4] (fun s4 wx => ∃ k : Nat, s4 = .int .i64 k ∧ k ≤ K ∧ Hid (∀ (i : Nat) (b : Bkt), i < k → bs[i]? = some b → b.ok = true) ∧ Hid (Below W.heap.size W wx)) (fun s4 _ => K - (intOf s4).toNat)
  case atStart => exact ⟨0, by go_num, Nat.zero_le _, fun i b hi => absurd hi (Nat.not_lt_zero _), Below.refl _ _⟩
  case round =>
    obtain ⟨k, rfl, hk, hall, HX⟩ := hrel
    obtain ⟨wk, rfl⟩ : ∃ u : World, u = wr := ⟨_, rfl⟩
    by_cases hlt : k < K
    · obtain ⟨b, hc⟩ : ∃ b, bs[k]? = some b := ⟨_, List.getElem?_eq_getElem (by have := HK.out; omega)⟩
      obtain ⟨ok, hok⟩ : ∃ o, b.ok = o := ⟨_, rfl⟩
      have HC := Lib.hid (And.intro hc hok)
      have HOK := Lib.hid (show (okB b.bn b.bd && okB b.rn b.rd) = ok from hok)
      have hki : (k : Int) < (K : Int) := by omega
      clear hc hok
      go_upto_region 8 with fail
      have HX1 := Lib.hid (HX.out.trans ((Below.refl wk.heap.size wk).drew.mono HX.out.size))
      obtain ⟨y0, y1, y2, y3⟩ := (HL.out.under HX1.out).at0 HC.out.1
      go_cut [34] (fun s25 wx => s25 = .bool (!ok) ∧ Hid (Below W.heap.size W wx))
      case first =>
        go_region_with (go_at_call 97; (with_reducible refine (rgood2_any b.bn b.bd b.rn b.rd ok HOK.out _).mono ?_); rintro e x1 ⟨rfl, hb⟩; have HX2 := Lib.hid (HX1.out.trans (hb.mono HX1.out.size)); clear hb)
        all_goals
          go_wp2_with fail
          go_meet
          exact ⟨rfl, HX2⟩
      case rest =>
      obtain ⟨rfl, HX2⟩ := hcut
      obtain ⟨w2, rfl⟩ : ∃ u : World, u = wc := ⟨_, rfl⟩
      clear y0 y1 y2 y3 HX HX1
      cases ok with
      | false =>
        have HZ := Lib.hid (HA.out.symm.trans (bestA_bad (by have := HK.out; omega) (by have := HK.out; omega) (badL_of HC.out.1 HC.out.2)))
        obtain ⟨e0, e1, e2, e3, e4, e5⟩ := KR.out.below HX2.out
        go_wp2_with fail
        refine bodyPost_ret (v := .tuple #[curV none 0 0 0 0, .int .i64 2]) (by simp [results, Try.results25, go_sem, e0, e1, e2, e3, e4, e5]) rfl ?_
        rw [HZ.out]; exact GivesCE.postBad (b := w.heap.size) (HB.out.trans (HX2.out.mono HB.out.size)) (Nat.le_refl _) 2
      | true =>
        have hall2 := Lib.hid (show ∀ (i : Nat) (c : Bkt), i < k + 1 → bs[i]? = some c → c.ok = true from fun i c hi hcc => by
          by_cases he : i = k
          · subst he; rw [HC.out.1] at hcc; cases hcc; exact HC.out.2
          · exact hall.out i c (by omega) hcc)
        go_wp2_with fail
        go_roundw
        case rel => exact ⟨k + 1, by go_num, by omega, hall2, HX2⟩
        case measure => simp [intOf]; omega
    · obtain rfl : k = K := by omega
      have hki : ¬ (k : Int) < (k : Int) := by omega
      have HBD := Lib.hid (badL_not (fun i b hb => hall.out i b (by have := (List.getElem?_eq_some_iff.1 hb).1; have := HK.out; omega) hb))
      obtain ⟨K, hKK⟩ : ∃ n, k = n := ⟨_, rfl⟩
      rw [hKK] at HK hK hcap h0 h20 hki ⊢
      clear hKK hall hlt hk
      have h1 : 1 ≤ K := by omega
      have HANS := Lib.hid (HA.out.symm.trans (bestA_doc (by have := HK.out; omega) (by have := HK.out; omega) HBD.out).symm)
      obtain ⟨b0, hb0⟩ : ∃ b, bs[0]? = some b := ⟨_, List.getElem?_eq_getElem (by have := HK.out; omega)⟩
      obtain ⟨r0, hr0⟩ : ∃ r, docM bs 0 = r := ⟨_, rfl⟩
      have HR0 := Lib.hid hr0
      have HP0 := Lib.hid (show ∀ u, Calls Try.prog 22 #[bucketV b0.bn b0.bd b0.rn b0.rd] u (GivesCE r0.zs r0.p r0.inc r0.c u) from fun u => by
        have e : r0 = pacA b0 := by rw [← hr0]; unfold docM; rw [getD_some hb0]
        rw [e]; exact rpace_rs (badL_ok HBD.out hb0) u)
      obtain ⟨c0, c1, c2, c3⟩ := (HL.out.under HX.out).at0 hb0
      simp only [Nat.zero_mul, Nat.add_zero] at c0 c1 c2 c3
      have HBw := Lib.hid (show B < wk.heap.size from lt_of_cell c0)
      have KR1 := Lib.hid (KR.out.below HX.out)
      have HB1 := Lib.hid (HB.out.trans (HX.out.mono HB.out.size))
      have HL1 := Lib.hid (HL.out.under HX.out)
      clear hb0 hr0
      go_wp2_with fail
      clear c0 c1 c2 c3
      refine (HP0.out _).mono ?_
      rintro e u2 ⟨a1, n1, cap1, rfl, hb, hr1, hx1⟩
      obtain ⟨u3, hw⟩ : ∃ w', u2.alloc (.cells #[.slice a1 n1 cap1, .int .i64 r0.p, .int .i64 r0.inc] 38) = w' := ⟨_, rfl⟩
      have hz : Below wk.heap.size wk u3 := by rw [← hw]; exact hb.trans ((below_box _).mono hb.size)
      have hl1 := KR1.out.lt
      have S0 := Lib.hid (show BLs w u3 u2.heap.size r0 a1 n1 cap1 from ⟨KR1.out.below hz, by rw [← hw]; exact Cur3.new _ _ _ _ _, by rw [← hw]; exact hr1.under (below_box _), fun x h1 => ⟨by have := hx1 x h1; omega, fun hn => ⟨by have := hr1.far x h1 hn; omega, by have := hx1 x h1; omega⟩⟩, by have := hb.size; omega, HB1.out.trans (hz.mono HB1.out.size)⟩)
      have HL3 := Lib.hid (HL1.out.under hz)
      have HSZ := Lib.hid hb.size
      have HW := Lib.hid hw
      clear hb hr1 hx1 hw hz hl1 KR1 HB1
      go_upto_region 11 with fail
      try rw [HW.out]
      have hBL : B ≠ u2.heap.size := by have := HBw.out; have := HSZ.out; omega
      obtain ⟨L, hLe⟩ : ∃ B, u2.heap.size = B := ⟨_, rfl⟩
      rw [hLe] at S0 hBL
      have HBL := Lib.hid hBL
      clear hBL
      try rw [hLe]
      clear HW hLe hki
      go_wp2_with fail
      go_loopw [7, 6] (fun s7 s6 wx => ∃ (k : Nat) (r r2 : Rs) (a : Option Addr) (n cap : Nat), s7 = .int .i64 ((k + 1 : Nat) : Int) ∧ s6 = .int .i64 r.c ∧ k + 1 ≤ K ∧ Hid (r.c = 0 → r2 = r) ∧ Hid (docM bs k = r) ∧ Hid (BLs w wx L r2 a n cap) ∧ Hid (RowC wx B off bs)) (fun s7 _ _ => K - (intOf s7).toNat)
      case atStart => exact ⟨0, r0, r0, a1, n1, cap1, by go_num, rfl, h1, fun _ => rfl, HR0, S0, HL3⟩
      case round =>
        obtain ⟨k, r, r2, a, n, cap', rfl, rfl, hk, HR2, HF, HS, HLX⟩ := hrel
        obtain ⟨wk, rfl⟩ : ∃ u : World, u = wr := ⟨_, rfl⟩
        obtain ⟨j, hj⟩ : ∃ j : Nat, k + 1 = j := ⟨_, rfl⟩
        have hjj : ((k + 1 : Nat) : Int) = (j : Int) := by omega
        rw [hjj]
        by_cases hlt : j < K
        rotate_left
        · have hki : ¬ (j : Int) < (K : Int) := by omega
          have hkd : decide ((j : Int) < (K : Int)) = false := decide_eq_false hki
          have HZ := Lib.hid (show ans = r by rw [HANS.out, ← HF.out, show bs.length - 1 = k by have := HK.out; omega])
          clear hj hjj hlt
          by_cases hc : r.c = 0
          · have ec : (r.c != 0) = false := by simpa using hc
            have ec2 : (r.c == 0) = true := by simpa using hc
            have HE := Lib.hid (HR2.out hc)
            have HC0 := Lib.hid hc
            have HP := Lib.hid HS.out.post
            obtain ⟨c0, c1, c2, c3, c4, c5⟩ := HS.out.box
            obtain ⟨e0, e1, e2, e3, e4, e5⟩ := HS.out.res
            have hl1 := HS.out.lt
            have hl2 : ¬ w.heap.size = L := by omega
            have hl3 : ¬ L = w.heap.size := by omega
            clear hc
            go_wp2_with fail
            refine bodyPost_ret (v := .tuple #[curV a n cap' r2.p r2.inc, .int .i64 0]) (by simp [results, Try.results25, go_sem, e0, e1, e2, e3, e4, e5]) rfl ?_
            rw [HZ.out, ← HE.out]
            have h := HP.out
            rw [show r2.c = 0 by rw [HE.out]; exact HC0.out] at h ⊢
            exact h
          · have ec : (r.c != 0) = true := by simpa using hc
            have ec2 : (r.c == 0) = false := by simpa using hc
            have HZ2 := Lib.hid (show ans = Rs.lim ∧ r.c = 3 by
              have h : r = Rs.lim := by rw [← HF.out]; exact (docM_ok bs k).of (by rw [HF.out]; exact hc)
              exact ⟨by rw [HZ.out, h], by rw [h]; rfl⟩)
            obtain ⟨e0, e1, e2, e3, e4, e5⟩ := HS.out.res
            clear hc
            go_wp2_with fail
            refine bodyPost_ret (v := .tuple #[curV none 0 0 0 0, .int .i64 r.c]) (by simp [results, Try.results25, go_sem, e0, e1, e2, e3, e4, e5]) rfl ?_
            rw [HZ2.out.1, HZ2.out.2]; exact GivesCE.postBad (b := w.heap.size) HS.out.below (Nat.le_refl _) 3
        have hki : (j : Int) < (K : Int) := by omega
        have hkd : decide ((j : Int) < (K : Int)) = true := decide_eq_true hki
        by_cases hc : r.c = 0
        rotate_left
        · have ec : (r.c != 0) = true := by simpa using hc
          have ec2 : (r.c == 0) = false := by simpa using hc
          have HZ2 := Lib.hid (show ans = Rs.lim ∧ r.c = 3 by
            have h : r = Rs.lim := by rw [← HF.out]; exact (docM_ok bs k).of (by rw [HF.out]; exact hc)
            exact ⟨by rw [HANS.out]; exact docM_late (k := k) (by have := HK.out; omega) (by rw [HF.out]; exact hc), by rw [h]; rfl⟩)
          obtain ⟨e0, e1, e2, e3, e4, e5⟩ := HS.out.res
          clear hc hj hjj hlt
          go_wp2_with fail
          refine bodyPost_ret (v := .tuple #[curV none 0 0 0 0, .int .i64 r.c]) (by simp [results, Try.results25, go_sem, e0, e1, e2, e3, e4, e5]) rfl ?_
          rw [HZ2.out.1, HZ2.out.2]; exact GivesCE.postBad (b := w.heap.size) HS.out.below (Nat.le_refl _) 3
        have ec : (r.c != 0) = false := by simpa using hc
        have ec2 : (r.c == 0) = true := by simpa using hc
        obtain rfl : r2 = r := HR2.out hc
        obtain ⟨b, hb⟩ : ∃ b, bs[k + 1]? = some b := ⟨_, List.getElem?_eq_getElem (by have := HK.out; omega)⟩
        have HBK := Lib.hid (show bs[j]? = some b by rw [← hj]; exact hb)
        obtain ⟨s, hs⟩ : ∃ s, pacA b = s := ⟨_, rfl⟩
        have HPA := Lib.hid (show ∀ u, Calls Try.prog 22 #[bucketV b.bn b.bd b.rn b.rd] u (GivesCE s.zs s.p s.inc s.c u) from fun u => by rw [← hs]; exact rpace_rs (badL_ok HBD.out HBK.out) u)
        have HFN := Lib.hid (show docM bs (k + 1) = if s.c = 0 then maxA r2 s else Rs.lim by
          show (if (docM bs k).c = 0 then (if (pacA (bs.getD (k + 1) default)).c = 0 then maxA (docM bs k) (pacA (bs.getD (k + 1) default)) else Rs.lim) else Rs.lim) = _
          rw [HF.out, if_pos hc, getD_some hb, hs])
        have HSO := Lib.hid (show s.ok3 by rw [← hs]; exact (pacA_is b).ok)
        have HRO := Lib.hid (show r2.ok3 by rw [← HF.out]; exact docM_ok bs k)
        have HJ := Lib.hid hj
        have HC0 := Lib.hid hc
        -- the next pace
        obtain ⟨w2, hw⟩ : ∃ w', wk.alloc (.cells #[.slice none 0 0, .int .i64 0, .int .i64 0] 38) = w' := ⟨_, rfl⟩
        have hz : Below wk.heap.size wk w2 := by rw [← hw]; exact below_box _
        have S2 := Lib.hid (HS.out.call hz)
        have HOR := Lib.hid (show ∀ x, a = some x → 1 ≤ n → x.block < wk.heap.size from fun x h1 hn => HS.out.row.far x h1 hn)
        have XV := Lib.hid (show Cur3 w2 wk.heap.size (.slice none 0 0) (.int .i64 0) (.int .i64 0) by rw [← hw]; exact Cur3.new _ _ _ _ _)
        have HL2 := Lib.hid (HLX.out.under hz)
        have HLX2 := Lib.hid (show L < wk.heap.size from HS.out.box.lt)
        have HBV := Lib.hid (show B ≠ wk.heap.size by
          have h1 : B < wk.heap.size := lt_of_cell (HLX.out.at0 HBK.out).1
          omega)
        have HW := Lib.hid hw
        clear hb hs hw hz hj hjj HLX HS hc HR2
        go_upto_region 15 with fail
        try rw [HW.out]
        obtain ⟨V, hV⟩ : ∃ B, wk.heap.size = B := ⟨_, rfl⟩
        rw [hV] at XV HLX2 HBV HOR
        try rw [hV]
        clear HW hV
        obtain ⟨c0, c1, c2, c3⟩ := HL2.out.at0 HBK.out
        go_wp2_with fail
        clear c0 c1 c2 c3
        refine (HPA.out _).mono ?_
        rintro e w3 ⟨a3, n3, cap3, rfl, hb, hr3, hx3⟩
        have S3 := Lib.hid (S2.out.call hb)
        obtain ⟨w4, hw⟩ : ∃ w', (((w3.setCell ⟨V, 0, none⟩ (.slice a3 n3 cap3)).setCell ⟨V, 1, none⟩ (.int .i64 s.p)).setCell ⟨V, 2, none⟩ (.int .i64 s.inc)) = w' := ⟨_, rfl⟩
        have hxl := XV.out.lt
        have hne3 : ∀ x, a3 = some x → 1 ≤ n3 → x.block ≠ V := fun x h1 hn => by have := hx3 x h1; omega
        have hfr := S3.out.row.far
        have hneS : ∀ x, a = some x → 1 ≤ n → x.block ≠ V := fun x h1 hn => by
          have h2 := HOR.out x h1 hn
          omega
        have S4 := Lib.hid (show BLs w w4 L r2 a n cap' by
          rw [← hw]
          have hl := S3.out.lt
          have hlv := HLX2.out
          exact ⟨((S3.out.res.other (by omega) _ _).other (by omega) _ _).other (by omega) _ _, ((S3.out.box.other (by omega) _ _).other (by omega) _ _).other (by omega) _ _, ((S3.out.row.store hneS _ _).store hneS _ _).store hneS _ _, S3.out.far, hl, below_set3 S3.out.below (by omega) _ _ _⟩)
        have XV4 := Lib.hid (show Cur3 w4 V (.slice a3 n3 cap3) (.int .i64 s.p) (.int .i64 s.inc) by rw [← hw]; exact (XV.out.below hb).set _ _ _)
        have XR4 := Lib.hid (show RowZ w4 a3 n3 cap3 s.zs by rw [← hw]; exact ((hr3.store hne3 _ _).store hne3 _ _).store hne3 _ _)
        have HL4 := Lib.hid (show RowC w4 B off bs by rw [← hw]; exact (((HL2.out.under hb).other HBV.out _ _).other HBV.out _ _).other HBV.out _ _)
        obtain ⟨c0, c1, c2, c3, c4, c5⟩ := XV.out.below hb
        have HW := Lib.hid hw
        clear hb hr3 hx3 hw hxl hne3 hfr hneS
        go_upto_region 16 with fail
        try rw [HW.out]
        clear HW c0 c1 c2 c3 c4 c5
        by_cases hsc : s.c = 0
        rotate_left
        · have sc : (s.c == 0) = false := by simpa using hsc
          have HN1 := Lib.hid (show docM bs (k + 1) = s by rw [HFN.out, if_neg hsc, ← HSO.out.of hsc])
          have HNR := Lib.hid (show s.c = 0 → r2 = s from fun h => absurd h hsc)
          clear hsc
          go_wp2_with fail
          go_roundw
          case rel => exact ⟨k + 1, s, r2, a, n, cap', by rw [← HJ.out]; go_num, rfl, by have := HJ.out; omega, HNR, HN1, S4, HL4⟩
          case measure => simp [intOf]; omega
        have sc : (s.c == 0) = true := by simpa using hsc
        obtain ⟨p, hp, g1⟩ : ∃ p : Nat, r2.p = p ∧ Good r2.zs p r2.inc := by
          rcases HRO.out with ⟨_, p, hp, g⟩ | h
          · exact ⟨p, hp, g⟩
          · have := HC0.out; rw [h] at this; cases this
        obtain ⟨q, hq, g2⟩ : ∃ p : Nat, s.p = p ∧ Good s.zs p s.inc := by
          rcases HSO.out with ⟨_, p, hp, g⟩ | h
          · exact ⟨p, hp, g⟩
          · rw [h] at hsc; cases hsc
        obtain ⟨t, ht⟩ : ∃ t, maxA r2 s = t := ⟨_, rfl⟩
        have HMX := Lib.hid (show ∀ (a1 : Option Addr) (n1 cap1 : Nat) (a2 : Option Addr) (n2 cap2 : Nat) (u : World), RowZ u a1 n1 cap1 r2.zs → RowZ u a2 n2 cap2 s.zs → Calls Try.prog 50 #[curV a1 n1 cap1 r2.p r2.inc, curV a2 n2 cap2 s.p s.inc] u (GivesCE t.zs t.p t.inc t.c u) from fun a1 n1 cap1 a2 n2 cap2 u h1 h2 => by rw [← ht]; exact rmax_rs hp hq g1 g2 a1 n1 cap1 a2 n2 cap2 u h1 h2)
        have HN1 := Lib.hid (show docM bs (k + 1) = t by rw [HFN.out, if_pos hsc, ht])
        clear hp g1 hq g2 ht hsc
        obtain ⟨c0, c1, c2, c3, c4, c5⟩ := S4.out.box
        obtain ⟨d0, d1, d2, d3, d4, d5⟩ := XV4.out
        go_wp2_with fail
        clear c0 c1 c2 c3 c4 c5 d0 d1 d2 d3 d4 d5
        refine (HMX.out _ _ _ _ _ _ _ S4.out.row XR4.out).mono ?_
        rintro e w5 ⟨a5, n5, cap5, rfl, hb, hr5, hx5⟩
        have S5 := Lib.hid (S4.out.call hb)
        have hl2 := S4.out.box.lt
        have hl3 := S4.out.res.lt
        obtain ⟨w6, hw⟩ : ∃ w', (((w5.setCell ⟨L, 0, none⟩ (.slice a5 n5 cap5)).setCell ⟨L, 1, none⟩ (.int .i64 t.p)).setCell ⟨L, 2, none⟩ (.int .i64 t.inc)) = w' := ⟨_, rfl⟩
        have S6 := Lib.hid (show BLs w w6 L t a5 n5 cap5 by rw [← hw]; exact S5.out.lay hr5 (fun x h1 => ⟨by have := hx5 x h1; omega, fun _ => ⟨by have := hx5 x h1; omega, by have := hx5 x h1; omega⟩⟩))
        have HL6 := Lib.hid (show RowC w6 B off bs by rw [← hw]; exact (((HL4.out.under hb).other HBL.out _ _).other HBL.out _ _).other HBL.out _ _)
        obtain ⟨c0, c1, c2, c3, c4, c5⟩ := S5.out.box
        have HW := Lib.hid hw
        clear hb hr5 hx5 hw hl2 hl3
        go_upto_region 13 with fail
        try rw [HW.out]
        clear HW c0 c1 c2 c3 c4 c5
        go_wp2_with fail
        go_roundw
        case rel => exact ⟨k + 1, t, t, a5, n5, cap5, by rw [← HJ.out]; go_num, rfl, by have := HJ.out; omega, fun _ => rfl, HN1, S6, HL6⟩
        case measure => simp [intOf]; omega

set_option maxHeartbeats 800000 in
theorem rchainC_nil (A : Option Addr) (cap : Nat) (w : World) : Calls Try.prog 27 #[.slice A 0 cap] w (GivesPk (chainA []) w) := by
  rw [chainA_zero (bs := []) rfl]
  have KR := Lib.hid (Pq4.new w 0 0 0 0 25)
  have HB := Lib.hid (below_box (w := w) (.cells #[.int .i64 0, .int .i64 0, .int .i64 0, .int .i64 0] 25))
  go_enter Try.func27, Try.ntmps27
  go_upto_region 1 with fail
  generalize w.alloc (.cells #[.int .i64 0, .int .i64 0, .int .i64 0, .int .i64 0] 25) = W at KR HB ⊢
  obtain ⟨e0, e1, e2, e3, e4, e5, e6, e7⟩ := KR.out
  go_wp2_with fail
  go_loopw [4] (fun s4 wx => s4 = .int .i64 0 ∧ wx = W) (fun s4 _ => 0)
  case atStart => exact ⟨rfl, rfl⟩
  case round =>
    obtain ⟨rfl, rfl⟩ := hrel
    go_wp2_with fail
    exact bodyPost_ret (v := .tuple #[bucketV 0 0 0 0, .int .i64 2]) (by simp [results, Try.results27, go_sem, e0, e1, e2, e3, e4, e5, e6, e7]) rfl ⟨rfl, svbelow4 HB.out (Nat.le_refl _) _ _ _ _⟩

set_option maxHeartbeats 800000 in
theorem rbestC_nil (A : Option Addr) (cap : Nat) (w : World) : Calls Try.prog 25 #[.slice A 0 cap] w (GivesCE (bestA []).zs (bestA []).p (bestA []).inc (bestA []).c w) := by
  rw [bestA_zero (bs := []) rfl]
  have KR := Lib.hid (Cur3.new w (.slice none 0 0) (.int .i64 0) (.int .i64 0) 38)
  have HB := Lib.hid (below_box (w := w) (.cells #[.slice none 0 0, .int .i64 0, .int .i64 0] 38))
  go_enter Try.func25, Try.ntmps25
  go_upto_region 1 with fail
  generalize w.alloc (.cells #[.slice none 0 0, .int .i64 0, .int .i64 0] 38) = W at KR HB ⊢
  obtain ⟨e0, e1, e2, e3, e4, e5⟩ := KR.out
  go_wp2_with fail
  exact bodyPost_ret (v := .tuple #[curV none 0 0 0 0, .int .i64 2]) (by simp [results, Try.results25, go_sem, e0, e1, e2, e3, e4, e5]) rfl (GivesCE.postBad (b := w.heap.size) HB.out (Nat.le_refl _) 2)

end Go.Proofs.Ytjipmkgnndldpaa
