/- The first values of a closure, the least period that fits, the curve that is made of them. By the verifier's side. -/
import Derived.Test.YtjjaaknjdmijbaaQdDecADecBDecC
import Derived.Test.YtjjaaknjdmijbaaQdCloP
import Derived.Deep.LoopGhost
import Derived.BigQuiet
namespace Go.Proofs.Ytjjaaknjdmijbaa
open Go.RowKit
set_option linter.unusedSimpArgs false
set_option linter.unusedVariables false

theorem make_1040 (w : World) : (Instr.makeSlice 22 (.int .i64 1040) (.int .i64 1040)).run Try.prog w = .ok (.slice (some ⟨w.heap.size, 0, none⟩) 1040 1040) (w.alloc (.cells (madeCells #[.int .i64 0] 1040) 3)) := by
  have := run_make_row' (P := Try.prog) 22 3 (.int .i64 0) 8 Try.underlying22 info_int rfl .i64 .i64 1040 (by omega) (by omega) w
  simpa using this

/-- While the values are listed: up to t, there so far x. -/
structure CL (w : World) (zs : List Int) (p : Nat) (inc : Int) (a : Option Addr) (n cap B lb t : Nat) (x : Int) (u : World) : Prop where
  lst : RowF u lb 1040 (fun i => if i < t then encF (eClo zs p inc) i else if i = t then x else 0)
  cl : ClosP u B a n cap zs p inc
  far : Far B a n lb
  l : w.heap.size ≤ lb
  below : Below w.heap.size w u
section
variable {w u v : World} {zs : List Int} {p : Nat} {inc : Int} {a : Option Addr} {n cap B lb t : Nat} {x : Int}
theorem CL.call (h : CL w zs p inc a n cap B lb t x u) (hb : Below u.heap.size u v) : CL w zs p inc a n cap B lb t x v := ⟨h.lst.under hb, h.cl.under hb, h.far, h.l, h.below.trans (hb.mono h.below.size)⟩
theorem CL.put (h : CL w zs p inc a n cap B lb t x u) (ht : t < 1040) (y : Int) : CL w zs p inc a n cap B lb t y (u.setCell ⟨lb, t, none⟩ (.int .i64 y)) := by
  have hl := h.l
  refine ⟨(h.lst.set ht y).congr fun i hi => ?_, h.cl.other h.far _ _, h.far, h.l, h.below.setCell (p := ⟨lb, t, none⟩) (by show w.heap.size ≤ lb; omega) _⟩
  by_cases e : i = t
  · subst e; rw [if_pos rfl, if_neg (Nat.lt_irrefl _), if_pos rfl]
  · rw [if_neg e, if_neg e, if_neg e]
theorem CL.next (h : CL w zs p inc a n cap B lb t x u) (hx : x = encF (eClo zs p inc) t) : CL w zs p inc a n cap B lb (t + 1) 0 u := by
  refine ⟨h.lst.congr fun i hi => ?_, h.cl, h.far, h.l, h.below⟩
  by_cases e : i = t
  · subst e; rw [if_neg (Nat.lt_irrefl _), if_pos rfl, if_pos (Nat.lt_succ_self _)]; exact hx
  · rw [if_neg e]
    by_cases e2 : i < t
    · rw [if_pos e2, if_pos (by omega)]
    · rw [if_neg e2, if_neg (by omega), ite_self]
/-- The cells that one more part looks at. -/
abbrev CLS (w : World) (zs : List Int) (p : Nat) (inc : Int) (a : Option Addr) (n cap B lb t : Nat) (x : Int) (s d : Nat) (y z : Int) (u : World) : Prop :=
  u.cell? ⟨lb, t, none⟩ = some (.int .i64 x) ∧ u.frozen? ⟨lb, t, none⟩ = false ∧ u.cell? ⟨lb, s, none⟩ = some (.int .i64 y) ∧ u.cell? ⟨lb, d, none⟩ = some (.int .i64 z) ∧ Hid (CL w zs p inc a n cap B lb t x u)
theorem cls_of (h : CL w zs p inc a n cap B lb t x u) (ht : t < 1040) {s d : Nat} (hs : s < t) (hd : d < t) {y z : Int} (hy : encF (eClo zs p inc) s = y) (hz : encF (eClo zs p inc) d = z) : CLS w zs p inc a n cap B lb t x s d y z u := by
  obtain ⟨h1, h2⟩ := h.lst.cell t ht
  have h3 := (h.lst.cell s (by omega)).1
  have h4 := (h.lst.cell d (by omega)).1
  rw [if_neg (Nat.lt_irrefl _), if_pos rfl] at h1
  rw [if_pos hs, hy] at h3
  rw [if_pos hd, hz] at h4
  exact ⟨h1, h2, h3, h4, h⟩
end

set_option maxRecDepth 100000 in
set_option maxHeartbeats 3200000 in
theorem closed_any (a : Option Addr) (n cap : Nat) (zs : List Int) (p : Nat) (inc : Int) (g : Good zs p inc) (w : World) (h : RowZ w a n cap zs) :
    Calls Try.prog 108 #[curV a n cap p inc] w (GivesRow (encF (eClo zs p inc)) 1040 w) := by
  have hmk := make_1040
  obtain ⟨w1, hw1⟩ : ∃ W, w.alloc (.cells #[.slice a n cap, .int .i64 p, .int .i64 inc] 24) = W := ⟨_, rfl⟩
  have hb1 : Below w.heap.size w w1 := by rw [← hw1]; exact (Below.refl _ _).alloc (Nat.le_refl _) _
  have CB := Lib.hid (show Cur3 w1 w.heap.size (.slice a n cap) (.int .i64 p) (.int .i64 inc) by rw [← hw1]; exact Cur3.new w _ _ _ _)
  have RW := Lib.hid (h.under hb1)
  have HB := Lib.hid hb1
  have FAR := Lib.hid h.far
  have G0 := Lib.hid g
  have HW1 := Lib.hid hw1
  clear h g hb1 hw1
  go_enter Try.func108, Try.ntmps108
  go_upto_region 1 with fail
  try rw [HW1.out]
  obtain ⟨c0, c1, c2, f0, f1, f2⟩ := CB.out
  go_wp2_with fail
  refine (pvalues_p a n cap zs p inc G0.out _ RW.out).mono ?_
  rintro e w3 ⟨B, rfl, hb, hlB, hmB, hcl⟩
  obtain ⟨w4, hw4⟩ : ∃ W, w3.alloc (.cells (madeCells #[.int .i64 0] 1040) 3) = W := ⟨_, rfl⟩
  have HW4 := Lib.hid hw4
  have Z0 := Lib.hid (show CL w zs p inc a n cap B w3.heap.size 1 0 w4 from by
    have hb4 : Below w3.heap.size w3 w4 := by rw [← hw4]; exact (Below.refl _ _).alloc (Nat.le_refl _) _
    have hbw : Below w.heap.size w w3 := HB.out.trans (hb.mono HB.out.size)
    refine ⟨(show RowF w4 w3.heap.size 1040 (fun _ => 0) by rw [← hw4]; exact RowF.made w3 1040).congr fun i hi => ?_, hcl.under hb4, ⟨by omega, by omega, fun x hx hn => by have := FAR.out x hx hn; have := hbw.size; omega⟩, hbw.size, hbw.trans (hb4.mono hbw.size)⟩
    by_cases e : i < 1
    · rw [if_pos e, show i = 0 by omega]; rfl
    · rw [if_neg e, ite_self])
  clear hb hlB hmB hcl c0 c1 c2 f0 f1 f2 hw4
  go_wp2_with fail
  try rw [HW4.out]
  clear hmk CB RW HB FAR HW1 HW4
  have EV := Lib.hid (show ∀ (args : Array Value) (w : World), (callFunc 181 args).run Try.prog w = .ok (.enter 181 args) w from enters_of Try.func181 (by kernel_rfl) rfl)
  obtain ⟨lb, hlb⟩ : ∃ k, w3.heap.size = k := ⟨_, rfl⟩
  rw [hlb] at Z0
  try rw [hlb]
  clear hlb
  go_loopg [5] 1039 (fun g s5 wx => ∃ t : Nat, t + g = 1040 ∧ 1 ≤ t ∧ s5 = .int .i64 t ∧ Hid (CL w zs p inc a n cap B lb t 0 wx))
  case atStart => exact ⟨1, by omega, by omega, by go_num, Z0⟩
  case round =>
    obtain ⟨t, htg, ht1, rfl, HS⟩ := hrel
    obtain ⟨wk, rfl⟩ : ∃ u : World, u = wr := ⟨_, rfl⟩
    by_cases hlt : t < 1040
    · obtain ⟨g, rfl⟩ : ∃ g, gk = g + 1 := ⟨gk - 1, by omega⟩
      have hlti : (t : Int) < 1040 := by omega
      obtain ⟨v, hv⟩ : ∃ v, atC zs p inc t = v := ⟨_, rfl⟩
      have HV := Lib.hid hv
      have ev := EV.out
      clear hv
      go_wp2_with fail
      with_reducible refine (atp_any B a n cap zs p inc t (by omega) _ HS.out.cl).mono ?_
      rintro e u3 ⟨rfl, hd⟩
      have HS1 := Lib.hid (HS.out.call (below_dr (Below.refl _ _) hd))
      clear hd
      rw [HV.out]
      have HS3 := Lib.hid (show CL w zs p inc a n cap B lb t (enc (partTo (eClo zs p inc) (eC zs p inc t) t 0)) _ from by
        rw [show enc (partTo (eClo zs p inc) (eC zs p inc t) t 0) = v from (enc_eC zs p inc t).trans HV.out]; exact HS1.out.put hlt v)
      obtain ⟨h1, h2⟩ := HS1.out.lst.cell t hlt
      rw [if_neg (Nat.lt_irrefl _), if_pos rfl] at h1
      clear ev HS HV
      go_wp2_with fail
      clear h1 h2 HS1
      obtain ⟨hh, hhe⟩ : ∃ k, t / 2 = k := ⟨_, rfl⟩
      have hq : (t : Int).tdiv 2 = (hh : Int) := by rw [Int.tdiv_eq_ediv_of_nonneg (by omega), ← hhe]; omega
      have hqw : IntKind.i64.wrap (hh : Int) = (hh : Int) := IntWalk.i64_in _ ⟨by omega, by omega⟩
      go_loopg [6] hh (fun g2 s6 wx => ∃ k : Nat, k + g2 = hh ∧ s6 = .int .i64 ((k + 1 : Nat) : Int) ∧ Hid (CL w zs p inc a n cap B lb t (enc (partTo (eClo zs p inc) (eC zs p inc t) t k)) wx))
      case atStart => exact ⟨0, by omega, by go_num, HS3⟩
      case round =>
        obtain ⟨k, hkg, rfl, HT⟩ := hrel
        obtain ⟨wj, rfl⟩ : ∃ u : World, u = wr := ⟨_, rfl⟩
        clear HS3
        obtain ⟨s, hs⟩ : ∃ s, k + 1 = s := ⟨_, rfl⟩
        rw [hs]
        by_cases hle : s ≤ hh
        · obtain ⟨g2, rfl⟩ : ∃ g, gk = g + 1 := ⟨gk - 1, by omega⟩
          have hlei : (s : Int) ≤ (hh : Int) := by omega
          obtain ⟨d, hd⟩ : ∃ d, t - s = d := ⟨_, rfl⟩
          have hdi : (t : Int) - (s : Int) = (d : Int) := by omega
          have hdw : IntKind.i64.wrap (d : Int) = (d : Int) := IntWalk.i64_in _ ⟨by omega, by omega⟩
          have j1 : (s : Int) < 1040 := by omega
          have j2 : (d : Int) < 1040 := by omega
          have hst : s < t := by omega
          have hdt : d < t := by omega
          obtain ⟨x, hx⟩ : ∃ x, enc (partTo (eClo zs p inc) (eC zs p inc t) t k) = x := ⟨_, rfl⟩
          obtain ⟨y, hy⟩ : ∃ y, encF (eClo zs p inc) s = y := ⟨_, rfl⟩
          obtain ⟨z, hz⟩ : ∃ z, encF (eClo zs p inc) d = z := ⟨_, rfl⟩
          have hstep := part_step G0.out ht1 (by omega) (show k + 1 < t by omega)
          rw [hs, hd, hx, hy, hz] at hstep
          have HM := Lib.hid (And.intro (show Mid y by rw [← hy]; exact clo_mid G0.out (by omega)) (show Mid z by rw [← hz]; exact clo_mid G0.out (by omega)))
          obtain ⟨m, hm⟩ : ∃ m, min x (plI y z) = m := ⟨_, rfl⟩
          rw [hx] at HT
          rw [hm] at hstep
          obtain ⟨pv, hpv⟩ : ∃ pv, plI y z = pv := ⟨_, rfl⟩
          rw [hpv] at hm
          have hmin : (x ≤ pv ∧ x = m) ∨ (¬ x ≤ pv ∧ pv = m) := by omega
          have HST := Lib.hid hstep
          have HPV := Lib.hid hpv
          have HY := Lib.hid (And.intro hy hz)
          clear hx hy hz hpv hstep hm hd
          rcases hmin with ⟨hle, hm1⟩ | ⟨hle, hm1⟩
          · have hle2 : ¬ pv < x := by omega
            go_wp2_with fail
            have HT0 := Lib.hid (HT.out.call (Below.refl _ _).drew)
            have S0 := cls_of HT0.out hlt hst hdt HY.out.1 HY.out.2
            refine wp_region_keeps (fun u => CLS w zs p inc a n cap B lb t x s d y z u) 18 2 (by kernel_rfl) (by kernel_rfl) S0 (fun hHeld0 => ?_)
            refine wpAnyK_take (i := 0) (v := ?_) rfl (by kernel_rfl) (fun _ _ _ h => h) (Or.inl ⟨by rfl, ?_⟩) (by assumption) ?_
            rotate_left
            · (intro w hSw; (try dsimp only at hSw); go_simp; try with_reducible rfl)
            try simp only [Act.put, List.getElem_toArray, List.getElem_cons_zero, List.getElem_cons_succ, List.setIfInBounds_toArray, List.set_cons_zero, List.set_cons_succ]
            refine wpAnyK_take (i := 1) (v := ?_) rfl (by kernel_rfl) (fun _ _ _ h => h) (Or.inl ⟨by rfl, ?_⟩) (by assumption) ?_
            rotate_left
            · (intro w hSw; (try dsimp only at hSw); go_simp; try with_reducible rfl)
            try simp only [Act.put, List.getElem_toArray, List.getElem_cons_zero, List.getElem_cons_succ, List.setIfInBounds_toArray, List.set_cons_zero, List.set_cons_succ]
            refine wpAnyK_take (i := 2) (v := ?_) rfl (by kernel_rfl) (fun _ _ _ h => h) (Or.inl ⟨by rfl, ?_⟩) (by assumption) ?_
            rotate_left
            · (intro w hSw; (try dsimp only at hSw); go_simp; try with_reducible rfl)
            try simp only [Act.put, List.getElem_toArray, List.getElem_cons_zero, List.getElem_cons_succ, List.setIfInBounds_toArray, List.set_cons_zero, List.set_cons_succ]
            refine wpAnyK_take (i := 3) (v := ?_) rfl (by kernel_rfl) (fun _ _ _ h => h) (Or.inl ⟨by rfl, ?_⟩) (by assumption) ?_
            rotate_left
            · (intro w hSw; (try dsimp only at hSw); go_simp; try with_reducible rfl)
            try simp only [Act.put, List.getElem_toArray, List.getElem_cons_zero, List.getElem_cons_succ, List.setIfInBounds_toArray, List.set_cons_zero, List.set_cons_succ]
            refine wpAnyK_take (i := 4) (v := ?_) rfl (by kernel_rfl) (fun _ _ _ h => h) (Or.inl ⟨by rfl, ?_⟩) (by assumption) ?_
            rotate_left
            · (intro w hSw; (try dsimp only at hSw); go_simp; try with_reducible rfl)
            try simp only [Act.put, List.getElem_toArray, List.getElem_cons_zero, List.getElem_cons_succ, List.setIfInBounds_toArray, List.set_cons_zero, List.set_cons_succ]
            refine wpAnyK_take (i := 5) (v := ?_) rfl (by kernel_rfl) (fun _ _ _ h => h) (Or.inl ⟨by rfl, ?_⟩) (by assumption) ?_
            rotate_left
            · (intro w hSw; (try dsimp only at hSw); go_simp; try with_reducible rfl)
            try simp only [Act.put, List.getElem_toArray, List.getElem_cons_zero, List.getElem_cons_succ, List.setIfInBounds_toArray, List.set_cons_zero, List.set_cons_succ]
            refine wpAnyK_take (i := 6) (v := ?_) rfl (by kernel_rfl) (fun _ _ _ h => h) (Or.inl ⟨by rfl, ?_⟩) (by assumption) ?_
            rotate_left
            · (intro w hSw; (try dsimp only at hSw); go_simp; try with_reducible rfl)
            try simp only [Act.put, List.getElem_toArray, List.getElem_cons_zero, List.getElem_cons_succ, List.setIfInBounds_toArray, List.set_cons_zero, List.set_cons_succ]
            refine wpAnyK_take (i := 7) (v := ?_) rfl (by kernel_rfl) (fun _ _ _ h => h) (Or.inl ⟨by rfl, ?_⟩) (by assumption) ?_
            rotate_left
            · (intro w hSw; (try dsimp only at hSw); go_simp; try with_reducible rfl)
            try simp only [Act.put, List.getElem_toArray, List.getElem_cons_zero, List.getElem_cons_succ, List.setIfInBounds_toArray, List.set_cons_zero, List.set_cons_succ]
            refine wpAnyK_take (i := 8) (v := ?_) rfl (by kernel_rfl) (fun _ _ _ h => h) (Or.inl ⟨by rfl, ?_⟩) (by assumption) ?_
            rotate_left
            · (intro w hSw; (try dsimp only at hSw); go_simp; try with_reducible rfl)
            try simp only [Act.put, List.getElem_toArray, List.getElem_cons_zero, List.getElem_cons_succ, List.setIfInBounds_toArray, List.set_cons_zero, List.set_cons_succ]
            refine wpAnyK_take (i := 9) (v := ?_) rfl (by kernel_rfl) (fun _ _ _ h => h) (Or.inl ⟨by rfl, ?_⟩) (by assumption) ?_
            rotate_left
            · (intro w hSw; (try dsimp only at hSw); go_simp; try with_reducible rfl)
            try simp only [Act.put, List.getElem_toArray, List.getElem_cons_zero, List.getElem_cons_succ, List.setIfInBounds_toArray, List.set_cons_zero, List.set_cons_succ]
            refine wpAnyK_take (i := 10) (v := ?_) rfl (by kernel_rfl) (fun _ _ _ h => h) (Or.inl ⟨by rfl, ?_⟩) (by assumption) ?_
            rotate_left
            · (intro w hSw; (try dsimp only at hSw); go_simp; try with_reducible rfl)
            try simp only [Act.put, List.getElem_toArray, List.getElem_cons_zero, List.getElem_cons_succ, List.setIfInBounds_toArray, List.set_cons_zero, List.set_cons_succ]
            refine wpAnyK_take (i := 11) (v := ?_) rfl (by kernel_rfl) (fun _ _ _ h => h) (Or.inl ⟨by rfl, ?_⟩) (by assumption) ?_
            rotate_left
            · (intro w hSw; (try dsimp only at hSw); go_simp; try with_reducible rfl)
            try simp only [Act.put, List.getElem_toArray, List.getElem_cons_zero, List.getElem_cons_succ, List.setIfInBounds_toArray, List.set_cons_zero, List.set_cons_succ]
            refine wpAnyK_take (i := 12) (v := ?_) rfl (by kernel_rfl) (fun _ _ _ h => h) (Or.inl ⟨by rfl, ?_⟩) (by assumption) ?_
            rotate_left
            · (intro w hSw; (try dsimp only at hSw); go_simp; try with_reducible rfl)
            try simp only [Act.put, List.getElem_toArray, List.getElem_cons_zero, List.getElem_cons_succ, List.setIfInBounds_toArray, List.set_cons_zero, List.set_cons_succ]
            refine wpAnyK_take (i := 13) (v := ?_) rfl (by kernel_rfl) (fun _ _ _ h => h) (Or.inl ⟨by rfl, ?_⟩) (by assumption) ?_
            rotate_left
            · (intro w hSw; (try dsimp only at hSw); go_simp; try with_reducible rfl)
            try simp only [Act.put, List.getElem_toArray, List.getElem_cons_zero, List.getElem_cons_succ, List.setIfInBounds_toArray, List.set_cons_zero, List.set_cons_succ]
            refine wpAnyK_take (i := 14) (v := ?_) rfl (by kernel_rfl) (fun _ _ _ h => h) (Or.inl ⟨by rfl, ?_⟩) (by assumption) ?_
            rotate_left
            · (intro w hSw; (try dsimp only at hSw); go_simp; try with_reducible rfl)
            try simp only [Act.put, List.getElem_toArray, List.getElem_cons_zero, List.getElem_cons_succ, List.setIfInBounds_toArray, List.set_cons_zero, List.set_cons_succ]
            refine wpAnyK_take (i := 15) (v := ?_) rfl (by kernel_rfl) (fun _ _ _ h => h) (Or.inl ⟨by rfl, ?_⟩) (by assumption) ?_
            rotate_left
            · (intro w hSw; (try dsimp only at hSw); go_simp; try with_reducible rfl)
            try simp only [Act.put, List.getElem_toArray, List.getElem_cons_zero, List.getElem_cons_succ, List.setIfInBounds_toArray, List.set_cons_zero, List.set_cons_succ]
            refine wpAnyK_step (i := 16) rfl (by kernel_rfl) (fun K hK => ?_)
            go_simp
            with_reducible refine (pplus_any y z HM.out.1 HM.out.2 _).mono ?_
            rintro e u9 ⟨rfl, rfl⟩
            rw [HPV.out]
            refine hK.out _ _ S0 (fun hHeld1 => ?_)
            clear hK K hHeld0
            try simp only [Act.put, List.getElem_toArray, List.getElem_cons_zero, List.getElem_cons_succ, List.setIfInBounds_toArray, List.set_cons_zero, List.set_cons_succ]
            refine wpAnyK_take (i := 17) (v := ?_) rfl (by kernel_rfl) (fun _ _ _ h => h) (Or.inl ⟨by rfl, ?_⟩) (by assumption) ?_
            rotate_left
            · (intro w hSw; (try dsimp only at hSw); go_simp; try with_reducible rfl)
            try simp only [Act.put, List.getElem_toArray, List.getElem_cons_zero, List.getElem_cons_succ, List.setIfInBounds_toArray, List.set_cons_zero, List.set_cons_succ]
            refine wpAnyK_done (by kernel_rfl) ?_
            simp only [List.drop_succ_cons, List.drop_zero]
            clear hHeld1
            have HP2 := Lib.hid (show CL w zs p inc a n cap B lb t (enc (partTo (eClo zs p inc) (eC zs p inc t) t (k + 1))) _ from by rw [hs, HST.out]; exact (HT.out.put hlt m).call (Below.refl _ _).drew)
            subst hm1
            obtain ⟨q1, q2, q3, q4, _⟩ := S0
            go_wp2_with fail
            go_roundg g2
            case measure => omega
            case rel => exact ⟨k + 1, by omega, by go_num, HP2⟩
          · have hle2 : pv < x := by omega
            go_wp2_with fail
            have HT0 := Lib.hid (HT.out.call (Below.refl _ _).drew)
            have S0 := cls_of HT0.out hlt hst hdt HY.out.1 HY.out.2
            refine wp_region_keeps (fun u => CLS w zs p inc a n cap B lb t x s d y z u) 18 2 (by kernel_rfl) (by kernel_rfl) S0 (fun hHeld0 => ?_)
            refine wpAnyK_take (i := 0) (v := ?_) rfl (by kernel_rfl) (fun _ _ _ h => h) (Or.inl ⟨by rfl, ?_⟩) (by assumption) ?_
            rotate_left
            · (intro w hSw; (try dsimp only at hSw); go_simp; try with_reducible rfl)
            try simp only [Act.put, List.getElem_toArray, List.getElem_cons_zero, List.getElem_cons_succ, List.setIfInBounds_toArray, List.set_cons_zero, List.set_cons_succ]
            refine wpAnyK_take (i := 1) (v := ?_) rfl (by kernel_rfl) (fun _ _ _ h => h) (Or.inl ⟨by rfl, ?_⟩) (by assumption) ?_
            rotate_left
            · (intro w hSw; (try dsimp only at hSw); go_simp; try with_reducible rfl)
            try simp only [Act.put, List.getElem_toArray, List.getElem_cons_zero, List.getElem_cons_succ, List.setIfInBounds_toArray, List.set_cons_zero, List.set_cons_succ]
            refine wpAnyK_take (i := 2) (v := ?_) rfl (by kernel_rfl) (fun _ _ _ h => h) (Or.inl ⟨by rfl, ?_⟩) (by assumption) ?_
            rotate_left
            · (intro w hSw; (try dsimp only at hSw); go_simp; try with_reducible rfl)
            try simp only [Act.put, List.getElem_toArray, List.getElem_cons_zero, List.getElem_cons_succ, List.setIfInBounds_toArray, List.set_cons_zero, List.set_cons_succ]
            refine wpAnyK_take (i := 3) (v := ?_) rfl (by kernel_rfl) (fun _ _ _ h => h) (Or.inl ⟨by rfl, ?_⟩) (by assumption) ?_
            rotate_left
            · (intro w hSw; (try dsimp only at hSw); go_simp; try with_reducible rfl)
            try simp only [Act.put, List.getElem_toArray, List.getElem_cons_zero, List.getElem_cons_succ, List.setIfInBounds_toArray, List.set_cons_zero, List.set_cons_succ]
            refine wpAnyK_take (i := 4) (v := ?_) rfl (by kernel_rfl) (fun _ _ _ h => h) (Or.inl ⟨by rfl, ?_⟩) (by assumption) ?_
            rotate_left
            · (intro w hSw; (try dsimp only at hSw); go_simp; try with_reducible rfl)
            try simp only [Act.put, List.getElem_toArray, List.getElem_cons_zero, List.getElem_cons_succ, List.setIfInBounds_toArray, List.set_cons_zero, List.set_cons_succ]
            refine wpAnyK_take (i := 5) (v := ?_) rfl (by kernel_rfl) (fun _ _ _ h => h) (Or.inl ⟨by rfl, ?_⟩) (by assumption) ?_
            rotate_left
            · (intro w hSw; (try dsimp only at hSw); go_simp; try with_reducible rfl)
            try simp only [Act.put, List.getElem_toArray, List.getElem_cons_zero, List.getElem_cons_succ, List.setIfInBounds_toArray, List.set_cons_zero, List.set_cons_succ]
            refine wpAnyK_take (i := 6) (v := ?_) rfl (by kernel_rfl) (fun _ _ _ h => h) (Or.inl ⟨by rfl, ?_⟩) (by assumption) ?_
            rotate_left
            · (intro w hSw; (try dsimp only at hSw); go_simp; try with_reducible rfl)
            try simp only [Act.put, List.getElem_toArray, List.getElem_cons_zero, List.getElem_cons_succ, List.setIfInBounds_toArray, List.set_cons_zero, List.set_cons_succ]
            refine wpAnyK_take (i := 7) (v := ?_) rfl (by kernel_rfl) (fun _ _ _ h => h) (Or.inl ⟨by rfl, ?_⟩) (by assumption) ?_
            rotate_left
            · (intro w hSw; (try dsimp only at hSw); go_simp; try with_reducible rfl)
            try simp only [Act.put, List.getElem_toArray, List.getElem_cons_zero, List.getElem_cons_succ, List.setIfInBounds_toArray, List.set_cons_zero, List.set_cons_succ]
            refine wpAnyK_take (i := 8) (v := ?_) rfl (by kernel_rfl) (fun _ _ _ h => h) (Or.inl ⟨by rfl, ?_⟩) (by assumption) ?_
            rotate_left
            · (intro w hSw; (try dsimp only at hSw); go_simp; try with_reducible rfl)
            try simp only [Act.put, List.getElem_toArray, List.getElem_cons_zero, List.getElem_cons_succ, List.setIfInBounds_toArray, List.set_cons_zero, List.set_cons_succ]
            refine wpAnyK_take (i := 9) (v := ?_) rfl (by kernel_rfl) (fun _ _ _ h => h) (Or.inl ⟨by rfl, ?_⟩) (by assumption) ?_
            rotate_left
            · (intro w hSw; (try dsimp only at hSw); go_simp; try with_reducible rfl)
            try simp only [Act.put, List.getElem_toArray, List.getElem_cons_zero, List.getElem_cons_succ, List.setIfInBounds_toArray, List.set_cons_zero, List.set_cons_succ]
            refine wpAnyK_take (i := 10) (v := ?_) rfl (by kernel_rfl) (fun _ _ _ h => h) (Or.inl ⟨by rfl, ?_⟩) (by assumption) ?_
            rotate_left
            · (intro w hSw; (try dsimp only at hSw); go_simp; try with_reducible rfl)
            try simp only [Act.put, List.getElem_toArray, List.getElem_cons_zero, List.getElem_cons_succ, List.setIfInBounds_toArray, List.set_cons_zero, List.set_cons_succ]
            refine wpAnyK_take (i := 11) (v := ?_) rfl (by kernel_rfl) (fun _ _ _ h => h) (Or.inl ⟨by rfl, ?_⟩) (by assumption) ?_
            rotate_left
            · (intro w hSw; (try dsimp only at hSw); go_simp; try with_reducible rfl)
            try simp only [Act.put, List.getElem_toArray, List.getElem_cons_zero, List.getElem_cons_succ, List.setIfInBounds_toArray, List.set_cons_zero, List.set_cons_succ]
            refine wpAnyK_take (i := 12) (v := ?_) rfl (by kernel_rfl) (fun _ _ _ h => h) (Or.inl ⟨by rfl, ?_⟩) (by assumption) ?_
            rotate_left
            · (intro w hSw; (try dsimp only at hSw); go_simp; try with_reducible rfl)
            try simp only [Act.put, List.getElem_toArray, List.getElem_cons_zero, List.getElem_cons_succ, List.setIfInBounds_toArray, List.set_cons_zero, List.set_cons_succ]
            refine wpAnyK_take (i := 13) (v := ?_) rfl (by kernel_rfl) (fun _ _ _ h => h) (Or.inl ⟨by rfl, ?_⟩) (by assumption) ?_
            rotate_left
            · (intro w hSw; (try dsimp only at hSw); go_simp; try with_reducible rfl)
            try simp only [Act.put, List.getElem_toArray, List.getElem_cons_zero, List.getElem_cons_succ, List.setIfInBounds_toArray, List.set_cons_zero, List.set_cons_succ]
            refine wpAnyK_take (i := 14) (v := ?_) rfl (by kernel_rfl) (fun _ _ _ h => h) (Or.inl ⟨by rfl, ?_⟩) (by assumption) ?_
            rotate_left
            · (intro w hSw; (try dsimp only at hSw); go_simp; try with_reducible rfl)
            try simp only [Act.put, List.getElem_toArray, List.getElem_cons_zero, List.getElem_cons_succ, List.setIfInBounds_toArray, List.set_cons_zero, List.set_cons_succ]
            refine wpAnyK_take (i := 15) (v := ?_) rfl (by kernel_rfl) (fun _ _ _ h => h) (Or.inl ⟨by rfl, ?_⟩) (by assumption) ?_
            rotate_left
            · (intro w hSw; (try dsimp only at hSw); go_simp; try with_reducible rfl)
            try simp only [Act.put, List.getElem_toArray, List.getElem_cons_zero, List.getElem_cons_succ, List.setIfInBounds_toArray, List.set_cons_zero, List.set_cons_succ]
            refine wpAnyK_step (i := 16) rfl (by kernel_rfl) (fun K hK => ?_)
            go_simp
            with_reducible refine (pplus_any y z HM.out.1 HM.out.2 _).mono ?_
            rintro e u9 ⟨rfl, rfl⟩
            rw [HPV.out]
            refine hK.out _ _ S0 (fun hHeld1 => ?_)
            clear hK K hHeld0
            try simp only [Act.put, List.getElem_toArray, List.getElem_cons_zero, List.getElem_cons_succ, List.setIfInBounds_toArray, List.set_cons_zero, List.set_cons_succ]
            refine wpAnyK_take (i := 17) (v := ?_) rfl (by kernel_rfl) (fun _ _ _ h => h) (Or.inl ⟨by rfl, ?_⟩) (by assumption) ?_
            rotate_left
            · (intro w hSw; (try dsimp only at hSw); go_simp; try with_reducible rfl)
            try simp only [Act.put, List.getElem_toArray, List.getElem_cons_zero, List.getElem_cons_succ, List.setIfInBounds_toArray, List.set_cons_zero, List.set_cons_succ]
            refine wpAnyK_done (by kernel_rfl) ?_
            simp only [List.drop_succ_cons, List.drop_zero]
            clear hHeld1
            have HP2 := Lib.hid (show CL w zs p inc a n cap B lb t (enc (partTo (eClo zs p inc) (eC zs p inc t) t (k + 1))) _ from by rw [hs, HST.out]; exact (HT.out.put hlt m).call (Below.refl _ _).drew)
            subst hm1
            obtain ⟨q1, q2, q3, q4, _⟩ := S0
            go_wp2_with fail
            go_roundg g2
            case measure => omega
            case rel => exact ⟨k + 1, by omega, by go_num, HP2⟩
        · have hlei : ¬ (s : Int) ≤ (hh : Int) := by omega
          have BN := Lib.hid (HT.out.next (by rw [show k = t / 2 by omega]; exact part_last _ ht1))
          clear HT
          go_wp2_with fail
          go_roundg g
          case measure => omega
          case rel => exact ⟨t + 1, by omega, by omega, by go_num, BN⟩
    · obtain rfl : t = 1040 := by omega
      go_wp2_with fail
      go_ret
      exact ⟨lb, rfl, HS.out.below, HS.out.l, HS.out.lst.congr fun i hi => if_pos hi⟩


/-- The list stands. -/
structure LP (w : World) (F : Nat → Int) (lb : Nat) (u : World) : Prop where
  lst : RowF u lb 1040 F
  below : Below w.heap.size w u
theorem LP.call {w u v : World} {F : Nat → Int} {lb : Nat} (h : LP w F lb u) (hb : Below u.heap.size u v) : LP w F lb v := ⟨h.lst.under hb, h.below.trans (hb.mono h.below.size)⟩
theorem LP.dr {w u : World} {F : Nat → Int} {lb : Nat} (h : LP w F lb u) (m : Nat) : LP w F lb (u.drewN m) := h.call ((Below.refl _ _).drewN m)

/-- The least period that fits is handed back, or that there is none. -/
def GivesPeriod (F : Nat → Int) (w : World) (e : Ending) (w' : World) : Prop :=
  Below w.heap.size w w' ∧ ((∃ p : Nat, e = .returned (.tuple #[.int .i64 p, .bool true]) ∧ 1 ≤ p ∧ p ≤ 120 ∧ Fits F p ∧ ∀ p', 1 ≤ p' → p' < p → ¬ Fits F p') ∨ (e = .returned (.tuple #[.int .i64 0, .bool false]) ∧ ∀ p', 1 ≤ p' → p' ≤ 120 → ¬ Fits F p'))

set_option maxRecDepth 100000 in
set_option maxHeartbeats 3200000 in
theorem fperiod_any (lb : Nat) (F : Nat → Int) (hF : ∀ t, t < 1040 → 0 ≤ F t ∧ F t ≤ 4611686018427387904) (w : World) (h : RowF w lb 1040 F) :
    Calls Try.prog 173 #[.slice (some ⟨lb, 0, none⟩) 1040 1040] w (GivesPeriod F w) := by
  have L0 := Lib.hid (show LP w F lb w from ⟨h, Below.refl _ _⟩)
  have HF := Lib.hid hF
  clear h hF
  go_enter Try.func173, Try.ntmps173
  go_wp2_with fail
  go_step3
  go_wp2_with fail
  go_step3
  go_wp2_with fail
  go_loopg [4] 120 (fun g s4 wx => ∃ p : Nat, p + g = 121 ∧ 1 ≤ p ∧ s4 = .int .i64 p ∧ Hid (∀ p', 1 ≤ p' → p' < p → ¬ Fits F p') ∧ Hid (LP w F lb wx))
  case atStart => exact ⟨1, by omega, by omega, by go_num, fun p' h1 h2 => by omega, L0⟩
  case round =>
    obtain ⟨p, hpg, hp1, rfl, NF, HS⟩ := hrel
    obtain ⟨wk, rfl⟩ : ∃ u : World, u = wr := ⟨_, rfl⟩
    clear L0
    by_cases hle : p ≤ 120
    · obtain ⟨g, rfl⟩ : ∃ g, gk = g + 1 := ⟨gk - 1, by omega⟩
      have hlei : (p : Int) ≤ 120 := by omega
      obtain ⟨s, hs⟩ : ∃ s, 400 - p = s := ⟨_, rfl⟩
      have hsi : (400 : Int) - (p : Int) = (s : Int) := by omega
      have hsw : IntKind.i64.wrap (s : Int) = (s : Int) := IntWalk.i64_in _ ⟨by omega, by omega⟩
      have hsp : (s : Int) + (p : Int) = 400 := by omega
      have j1 : (s : Int) < 1040 := by omega
      obtain ⟨x, hx⟩ : ∃ x, F 400 = x := ⟨_, rfl⟩
      obtain ⟨y, hy⟩ : ∃ y, F s = y := ⟨_, rfl⟩
      have e1 := (HS.out.lst.cell 400 (by omega)).1
      have e2 := (HS.out.lst.cell s (by omega)).1
      rw [hx] at e1
      rw [hy] at e2
      obtain ⟨G, hG⟩ : ∃ G, x - y = G := ⟨_, rfl⟩
      have hGw : IntKind.i64.wrap G = G := by
        have b1 := HF.out 400 (by omega)
        have b2 := HF.out s (by omega)
        rw [hx] at b1
        rw [hy] at b2
        rw [← hG]; exact IntWalk.i64_in _ ⟨by omega, by omega⟩
      have HG := Lib.hid (show F 400 - F (400 - p) = G by rw [hs, hx, hy, hG])
      have HSP := Lib.hid hs
      clear hx hy hs
      go_wp2_with fail
      go_quiet (fail)
      go_wp2_with fail
      have HS2 := Lib.hid (HS.out.dr nq)
      have A0 := Lib.hid (show ∀ u, s ≤ u → u < s + 1 → F (u + p) - F u = G from fun u h1 h2 => by
        obtain rfl : u = s := by omega
        have e := HG.out
        have e2 := HSP.out
        rw [e2] at e
        rw [show u + p = 400 by omega]; exact e)
      clear e1 e2 HS
      go_loopg [7] 639 (fun g2 s7 wx => ∃ t : Nat, t + p + g2 = 1040 ∧ s + 1 ≤ t ∧ s7 = .int .i64 t ∧ Hid (∀ u, s ≤ u → u < t → F (u + p) - F u = G) ∧ Hid (LP w F lb wx))
      case atStart => exact ⟨s + 1, by omega, by omega, by go_num, A0, HS2⟩
      case round =>
        obtain ⟨t, htg, hst, rfl, HFI, HT⟩ := hrel
        obtain ⟨wj, rfl⟩ : ∃ u : World, u = wr := ⟨_, rfl⟩
        clear HS2 A0
        obtain ⟨d, hd⟩ : ∃ d, t + p = d := ⟨_, rfl⟩
        have hdi : (t : Int) + (p : Int) = (d : Int) := by omega
        have hdw : IntKind.i64.wrap (d : Int) = (d : Int) := IntWalk.i64_in _ ⟨by omega, by omega⟩
        by_cases hlt : d < 1040
        · obtain ⟨g2, rfl⟩ : ∃ g, gk = g + 1 := ⟨gk - 1, by omega⟩
          have hlti : (d : Int) < 1040 := by omega
          have htl : (t : Int) < 1040 := by omega
          obtain ⟨y1, hy1⟩ : ∃ y, F d = y := ⟨_, rfl⟩
          obtain ⟨y2, hy2⟩ : ∃ y, F t = y := ⟨_, rfl⟩
          have e1 := (HT.out.lst.cell d hlt).1
          have e2 := (HT.out.lst.cell t (by omega)).1
          have b1 := HF.out d hlt
          have b2 := HF.out t (by omega)
          rw [hy1] at e1 b1
          rw [hy2] at e2 b2
          obtain ⟨D, hD⟩ : ∃ D, y1 - y2 = D := ⟨_, rfl⟩
          have hDw : IntKind.i64.wrap D = D := by rw [← hD]; exact IntWalk.i64_in _ ⟨by omega, by omega⟩
          have hFD : F (t + p) - F t = D := by rw [hd, hy1, hy2, hD]
          have HS3 := Lib.hid (show ∀ m, LP w F lb (wj.drewN m) from fun m => HT.out.dr m)
          have HDD := Lib.hid hd
          clear hy1 hy2 b1 b2 hd
          by_cases hne : D = G
          · have t1 : (D != G) = false := by simpa using hne
            have AN := Lib.hid (show ∀ u, s ≤ u → u < t + 1 → F (u + p) - F u = G from fun u h1 h2 => by
              by_cases e : u = t
              · subst e; rw [hFD, hne]
              · exact HFI.out u h1 (by omega))
            clear hFD hne
            go_wp2_with fail
            go_quiet (fail)
            go_wp2_with fail
            go_roundg g2
            case measure => omega
            case rel => exact ⟨t + 1, by omega, by omega, by go_num, AN, Lib.hid (HS3.out _)⟩
          · have t1 : (D != G) = true := by simpa using hne
            have AN := Lib.hid (show ∀ p', 1 ≤ p' → p' < p + 1 → ¬ Fits F p' from fun p' h1 h2 hf => by
              by_cases e : p' = p
              · subst e
                have e3 := hf t (by have := HSP.out; omega) (by have := HDD.out; omega)
                rw [hFD, HG.out] at e3
                exact hne e3
              · exact NF.out p' h1 (by omega) hf)
            clear hFD hne
            go_wp2_with fail
            go_quiet (fail)
            go_wp2_with fail
            go_roundg g
            case measure => omega
            case rel => exact ⟨p + 1, by omega, by omega, by go_num, AN, Lib.hid (HS3.out _)⟩
        · have hlti : ¬ (d : Int) < 1040 := by omega
          have HFT := Lib.hid (show Fits F p from fun u h1 h2 => by rw [HG.out]; exact HFI.out u (by have := HSP.out; omega) (by omega))
          go_wp2_with fail
          try rw [Exit.noGoto_ret]
          go_ret2
          exact ⟨HT.out.below, .inl ⟨p, rfl, hp1, hle, HFT.out, NF.out⟩⟩
    · obtain rfl : p = 121 := by omega
      go_wp2_with fail
      try rw [Exit.noGoto_ret]
      go_ret2
      exact ⟨HS.out.below, .inr ⟨rfl, fun p' h1 h2 => NF.out p' h1 (by omega)⟩⟩


/-- The closure that the fitting curve is read from. -/
theorem fit1_any {w : World} {bx lb : Nat} {F : Nat → Int} (hx : w.cell? ⟨bx, 0, none⟩ = some (.slice (some ⟨lb, 0, none⟩) 1040 1040)) (hr : RowF w lb 1040 F) : ClosG 174 #[.pointer (some ⟨bx, 0, none⟩)] 1040 F w := by
  rintro ti t v w' rfl ht rfl hb
  obtain ⟨h1, h2⟩ := (hr.under hb).cell t ht
  have h3 := (hb.cell (lt_of_cell hx)).trans hx
  have h4 : (t : Int) < 1040 := by omega
  clear hr hb hx
  go_enter Try.func174, Try.ntmps174
  go_wp2_with fail
  go_ret
  exact ⟨rfl, 0, rfl⟩

/-- What is made of the list. -/
def GivesFit (ys : List Int) (q : Nat) (jnc : Int) (w : World) (e : Ending) (w' : World) : Prop :=
  (∃ p, 1 ≤ p ∧ p ≤ 120 ∧ Fits (encF (eClo ys q jnc)) p ∧ (∀ p', 1 ≤ p' → p' < p → ¬ Fits (encF (eClo ys q jnc)) p') ∧ GivesE (cloX (eC ys q jnc) p) w e w') ∨
  (e = .returned (.tuple #[curV none 0 0 0 0, .int .i64 3]) ∧ Below w.heap.size w w' ∧ ∀ p', 1 ≤ p' → p' ≤ 120 → ¬ Fits (encF (eClo ys q jnc)) p')

/-- The list's box and the result's. -/
structure FT (w : World) (lb : Nat) (F : Nat → Int) (u : World) : Prop where
  c0 : u.cell? ⟨w.heap.size, 0, none⟩ = some (.slice (some ⟨lb, 0, none⟩) 1040 1040)
  res : Cur3 u (w.heap.size + 1) (.slice none 0 0) (.int .i64 0) (.int .i64 0)
  lst : RowF u lb 1040 F
  below : Below w.heap.size w u
theorem FT.call {w u v : World} {lb : Nat} {F : Nat → Int} (h : FT w lb F u) (hb : Below u.heap.size u v) : FT w lb F v := ⟨(hb.cell (lt_of_cell h.c0)).trans h.c0, h.res.below hb, h.lst.under hb, h.below.trans (hb.mono h.below.size)⟩

set_option maxRecDepth 100000 in
set_option maxHeartbeats 3200000 in
theorem fitting_any (lb : Nat) (ys : List Int) (q : Nat) (jnc : Int) (g : Good ys q jnc) (w : World) (h : RowF w lb 1040 (encF (eClo ys q jnc))) :
    Calls Try.prog 107 #[.slice (some ⟨lb, 0, none⟩) 1040 1040] w (GivesFit ys q jnc w) := by
  have hmf : ∀ (fn : Fn) (first cap : Array Value) (w : World), (Instr.makeFunc fn first cap).run Try.prog w = .ok (.func fn first cap) w := fun _ _ _ _ => rfl
  obtain ⟨F, hF⟩ : ∃ F, encF (eClo ys q jnc) = F := ⟨_, rfl⟩
  have e0 : ((w.alloc (.cells #[.slice (some ⟨lb, 0, none⟩) 1040 1040] 22)).alloc (.cells #[.slice none 0 0, .int .i64 0, .int .i64 0] 24)).cell? ⟨w.heap.size, 0, none⟩ = some (.slice (some ⟨lb, 0, none⟩) 1040 1040) := by go_simp
  obtain ⟨W, hW⟩ : ∃ W, (w.alloc (.cells #[.slice (some ⟨lb, 0, none⟩) 1040 1040] 22)).alloc (.cells #[.slice none 0 0, .int .i64 0, .int .i64 0] 24) = W := ⟨_, rfl⟩
  have hB : Below w.heap.size w W := by rw [← hW]; exact ((Below.refl _ _).alloc (Nat.le_refl _) _).alloc (by simp) _
  have T0 := Lib.hid (show FT w lb F W from ⟨by rw [← hW]; exact e0, by rw [← hW]; exact Cur3.new2 w _ _ _ _ _, by rw [← hF]; exact h.under hB, hB⟩)
  have HFB := Lib.hid (show ∀ t, t < 1040 → 0 ≤ F t ∧ F t ≤ 4611686018427387904 from fun t ht => by
    have := clo_mid g (t := t) (by omega)
    rw [hF] at this
    unfold Mid infV at this; omega)
  have HFF := Lib.hid hF
  have HG := Lib.hid g
  have HW := Lib.hid hW
  have c0 := T0.out.c0
  clear h hB hF g hW e0
  go_enter Try.func107, Try.ntmps107
  go_upto_region 1 with fail
  try rw [HW.out]
  go_wp2_with fail
  refine (fperiod_any lb F HFB.out _ T0.out.lst).mono ?_
  rintro e w3 ⟨hb, ⟨p, rfl, hp1, hp2, hfit, hleast⟩ | ⟨rfl, hno⟩⟩
  · have T1 := Lib.hid (T0.out.call hb)
    have HP := Lib.hid (And.intro hfit hleast)
    clear hb hfit hleast c0
    have c0 := T1.out.c0
    have hpi : (400 : Int) - (p : Int) = ((400 - p : Nat) : Int) := by omega
    have hpw : IntKind.i64.wrap ((400 - p : Nat) : Int) = ((400 - p : Nat) : Int) := IntWalk.i64_in _ ⟨by omega, by omega⟩
    go_wp2_with fail
    have HFX := Lib.hid (show Fits (encF (eClo ys q jnc)) p by rw [HFF.out]; exact HP.out.1)
    refine (pcurve_any 174 #[.pointer (some ⟨w.heap.size, 0, none⟩)] (encF (cloX (eC ys q jnc) p)) (400 - p) p _ hp1 hp2 (by omega) (fun t ht => ?_) (clox_perF HG.out hp1 hp2) _ (enters_of Try.func174 (by kernel_rfl) rfl) ?_).mono ?_
    · rw [clox_encF HG.out hp1 hp2 HFX.out (by omega), HFF.out]; exact HFB.out t (by omega)
    · exact (fit1_any T1.out.c0 (T1.out.lst.congr fun t ht => by rw [clox_encF HG.out hp1 hp2 HFX.out ht, HFF.out])).less (by omega)
    rintro e w5 ⟨hb5, ⟨a5, n5, cap5, zs5, p5, inc5, rfl, hr5, hf5, hx5⟩ | ⟨rfl, hno5⟩⟩
    · have HQ := Lib.hid (GivesForm.toE (clox_tame HG.out hp1 hp2 HFX.out) (form_post (b := w.heap.size + 1) T1.out.below (by omega) T1.out.res.lt hb5 hr5 hx5 hf5))
      have T2 := Lib.hid (T1.out.call hb5)
      obtain ⟨d0, d1, d2, g0, g1, g2⟩ := T2.out.res
      clear c0 hb5 hr5 hf5 hx5
      go_wp2_with fail
      exact bodyPost_ret (v := .tuple #[curV a5 n5 cap5 p5 inc5, .int .i64 0]) (by simp [results, Try.results107, go_sem, d0, d1, d2]) rfl (.inl ⟨p, hp1, hp2, HFX.out, by rw [HFF.out]; exact HP.out.2, HQ.out⟩)
    · have HQ := Lib.hid (GivesForm.toE (clox_tame HG.out hp1 hp2 HFX.out) (none_post (b := w.heap.size + 1) T1.out.below (by omega) hb5 hno5))
      have T2 := Lib.hid (T1.out.call hb5)
      obtain ⟨d0, d1, d2, g0, g1, g2⟩ := T2.out.res
      clear c0 hb5 hno5
      go_wp2_with fail
      exact bodyPost_ret (v := .tuple #[curV none 0 0 0 0, .int .i64 3]) (by simp [results, Try.results107, go_sem, d0, d1, d2]) rfl (.inl ⟨p, hp1, hp2, HFX.out, by rw [HFF.out]; exact HP.out.2, HQ.out⟩)
  · have T1 := Lib.hid (T0.out.call hb)
    have HN := Lib.hid hno
    obtain ⟨d0, d1, d2, g0, g1, g2⟩ := T1.out.res
    have HB2 := Lib.hid (below_set3 (b := w.heap.size + 1) T1.out.below (by omega) (.slice none 0 0) (.int .i64 0) (.int .i64 0))
    clear hb hno c0
    go_wp2_with fail
    exact bodyPost_ret (v := .tuple #[curV none 0 0 0 0, .int .i64 3]) (by simp [results, Try.results107, go_sem, d0, d1, d2]) rfl (.inr ⟨rfl, HB2.out, by rw [HFF.out]; exact HN.out⟩)

end Go.Proofs.Ytjjaaknjdmijbaa
