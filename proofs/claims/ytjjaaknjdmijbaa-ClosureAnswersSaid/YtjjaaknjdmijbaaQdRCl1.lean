/- Of the document's closure: plus, start, Values. By the verifier's side. -/
import Derived.Test.YtjjaaknjdmijbaaQdCloP
import Derived.Test.YtjjaaknjdmijbaaQdRefA
import Derived.Test.YtjjaaknjdmijbaaQdR5D
import Derived.Test.YtjjaaknjdmijbaaQdConMN
import Derived.Deep.LoopGhost
import Derived.BigQuiet
namespace Go.Proofs.Ytjjaaknjdmijbaa
open Go.RowKit
set_option linter.unusedSimpArgs false
set_option linter.unusedVariables false

theorem plus9 (a b : Int) (ha : Mid a) (hb : Mid b) (v : Int) (hv : plI a b = v) (w : World) : Calls Try.prog 118 #[.int .i64 a, .int .i64 b] w fun e w' => e = .returned (.int .i64 v) ∧ w' = w := by
  subst hv
  obtain ⟨a1, a2, a3⟩ := ha.bd
  obtain ⟨b1, b2, b3⟩ := hb.bd
  by_cases h1 : a = 4611686018427387904
  · subst h1
    have e : plI 4611686018427387904 b = 4611686018427387904 := plI_l b
    rw [e]
    clear ha hb
    go_enter Try.func118, Try.ntmps118
    go_wp2_with fail
    go_ret
    exact ⟨rfl, rfl⟩
  · by_cases h2 : b = 4611686018427387904
    · subst h2
      have e : plI a 4611686018427387904 = 4611686018427387904 := plI_r a
      rw [e]
      have t1 : (a == 4611686018427387904) = false := by simpa using h1
      clear ha hb h1
      go_enter Try.func118, Try.ntmps118
      go_wp2_with fail
      go_ret
      exact ⟨rfl, rfl⟩
    · have e : plI a b = a + b := plI_fin h1 h2
      rw [e]
      have t1 : (a == 4611686018427387904) = false := by simpa using h1
      have t2 : (b == 4611686018427387904) = false := by simpa using h2
      have a4 : a ≤ 1125899906842624 := by omega
      have b4 : b ≤ 1125899906842624 := by omega
      clear ha hb h1 h2 a3 b3 e
      go_enter Try.func118, Try.ntmps118
      go_wp2_with fail
      go_ret
      exact ⟨rfl, rfl⟩

theorem start9 (a : Option Addr) (n cap p : Nat) (inc : Int) (hp : p ≤ n) (hn : n ≤ 100000) (v : Int) (hv : ((n - p : Nat) : Int) = v) (w : World) : Calls Try.prog 179 #[curV a n cap p inc] w (Says (.int .i64 v) w) := by
  subst hv
  have HB := Lib.hid (below_box (w := w) (.cells #[.slice a n cap, .int .i64 p, .int .i64 inc] 24))
  have k := Cur3.new w (.slice a n cap) (.int .i64 p) (.int .i64 inc) 24
  obtain ⟨c0, c1, c2, c3, c4, c5⟩ := k
  have e : (n : Int) - (p : Int) = ((n - p : Nat) : Int) := by omega
  have ew : IntKind.i64.wrap ((n - p : Nat) : Int) = ((n - p : Nat) : Int) := IntWalk.i64_in _ ⟨by omega, by omega⟩
  go_enter Try.func179, Try.ntmps179
  go_wp2_with fail
  go_ret
  exact ⟨by first | rfl | (rw [e]) | (simp [e]), HB.out⟩

/-- A new list of the first values of F. -/
def GivesVals (F : Nat → Int) (m : Nat) (w : World) (e : Ending) (w' : World) : Prop :=
  ∃ (g c : Nat), e = .returned (.slice (some ⟨g, 0, none⟩) m c) ∧ Below w.heap.size w w' ∧ w.heap.size ≤ g ∧ RowZ w' (some ⟨g, 0, none⟩) m c (firsts F m)

/-- While the document lists the closure's values: there are k. -/
structure VL (w : World) (a : Option Addr) (n cap p : Nat) (inc : Int) (zs : List Int) (f : Nat → Int) (k : Nat) (sv : Value) (u : World) : Prop where
  box : Cur3 u w.heap.size (.slice a n cap) (.int .i64 p) (.int .i64 inc)
  h0 : RowZ w a n cap zs
  own : u.ownsRow (w.heap.size + 1) 3 1 sv k ((firsts f k).map (Value.int .i64))
  below : Below w.heap.size w u
section
variable {w u v : World} {a : Option Addr} {n cap p : Nat} {inc : Int} {zs : List Int} {f : Nat → Int} {k : Nat} {sv : Value}
theorem VL.call (h : VL w a n cap p inc zs f k sv u) (hb : Below u.heap.size u v) : VL w a n cap p inc zs f k sv v :=
  ⟨h.box.below hb, h.h0, owns_apart h.own (below_apart (b := w.heap.size) hb) (by omega), h.below.trans (hb.mono h.below.size)⟩
theorem VL.form (h : VL w a n cap p inc zs f k sv u) (hk : 1 ≤ k) : ∃ g c, sv = .slice (some ⟨g, 0, none⟩) k c ∧ w.heap.size < g := by
  obtain ⟨g, c, rfl, hg, hg'⟩ := h.own.form (by omega)
  exact ⟨g, c, rfl, by have := (h.own.lt g rfl).1; omega⟩
theorem VL.cell {g c : Nat} (h : VL w a n cap p inc zs f k (.slice (some ⟨g, 0, none⟩) k c) u) {i : Nat} (hi : i < k) {y : Int} (hy : f i = y) : u.cell? ⟨g, i, none⟩ = some (.int .i64 y) := by
  have := owns_cell h.own (i := i) (by rw [firsts_length]; exact hi)
  rwa [firsts_getD _ _ _ hi, hy] at this
theorem VL.push {v' : Value} (h : VL w a n cap p inc zs f k sv u) {z : Int} (hown : v.ownsRow (w.heap.size + 1) 3 1 v' (k + 1) ((firsts f k).map (Value.int .i64) ++ [Value.int .i64 z])) (hg : u.grownBy v sv.ownBlock) (hz : f k = z) : VL w a n cap p inc zs f (k + 1) v' v := by
  have hrow : ∀ j, sv.ownBlock = some j → w.heap.size + 1 ≤ j := fun j hj => (h.own.lt j hj).1
  refine ⟨h.box.grown hg (fun j hj => by have := hrow j hj; omega), h.h0, ?_, h.below.grown hg h.below.size (fun j hj => by have := hrow j hj; omega)⟩
  · rw [firsts_succ, List.map_append, hz]; exact hown
end
theorem VL.start {w : World} {a : Option Addr} {n cap p : Nat} {inc : Int} {zs : List Int} {f : Nat → Int} (h : RowZ w a n cap zs) (hf : f 0 = 0) {W V : World} (hW : w.alloc (.cells #[.slice a n cap, .int .i64 p, .int .i64 inc] 24) = W) (hV : W.alloc (.cells #[.int .i64 0] 3) = V) :
    VL w a n cap p inc zs f 1 (.slice (some ⟨W.heap.size, 0, none⟩) 1 1) V := by
  have hws : W.heap.size = w.heap.size + 1 := by rw [← hW]; simp
  have hb : Below W.heap.size W V := by rw [← hV]; exact (Below.refl _ _).alloc (Nat.le_refl _) _
  have hx : Bx W w.heap.size a n cap p inc zs := by rw [← hW]; exact Bx.new h
  refine ⟨hx.box.below hb, h, ?_, ?_⟩
  · have e : (firsts f 1).map (Value.int .i64) = [Value.int .i64 0] := by rw [firsts_succ]; simp [firsts, hf]
    rw [e, ← hV]
    refine ⟨by simp, .inr ⟨W.heap.size, 1, #[.int .i64 0], rfl, by omega, heap_alloc_new W _, Nat.le_refl _, by unfold maxLen; omega, by simp, by simp⟩⟩
  · have : Below w.heap.size w W := by rw [← hW]; exact below_box _
    exact this.trans (hb.mono this.size)

set_option maxRecDepth 100000 in
set_option maxHeartbeats 3200000 in
theorem rvalues9 (a : Option Addr) (n cap : Nat) (zs : List Int) (p : Nat) (inc : Int) (g : Good zs p inc) (N : Nat) (hN1 : 1 ≤ N) (hN2 : N ≤ 100000) (w : World) (h : RowZ w a n cap zs) :
    Calls Try.prog 49 #[curV a n cap p inc, .int .i64 N] w (GivesVals (encF (eClo zs p inc)) N w) := by
  obtain ⟨ii0, ihi, ihz0, ihz1, ihz2⟩ := info_parts info_int
  obtain ⟨f, hf⟩ : ∃ f, encF (eClo zs p inc) = f := ⟨_, rfl⟩
  have HF := Lib.hid hf
  have G0 := Lib.hid g
  have FAR := Lib.hid h.far
  have HIN := Lib.hid (show ∀ t, t < N → In64 (f t) from fun t ht => by
    rw [← hf]; have := (clo_mid g (show t ≤ 100000 by omega)).bd; exact ⟨by omega, by omega⟩)
  obtain ⟨W, hW⟩ : ∃ W, w.alloc (.cells #[.slice a n cap, .int .i64 p, .int .i64 inc] 24) = W := ⟨_, rfl⟩
  have ST := Lib.hid (show ∀ V, W.alloc (.cells #[.int .i64 0] 3) = V → VL w a n cap p inc zs f 1 (.slice (some ⟨W.heap.size, 0, none⟩) 1 1) V from fun V hV => VL.start h (by rw [← hf]; rfl) hW hV)
  have HW := Lib.hid hW
  rw [hf]
  clear h g hW hf
  go_enter Try.func49, Try.ntmps49
  go_upto_region 1 with fail
  try rw [HW.out]
  go_upto_region 2 with fail
  obtain ⟨V, hV⟩ : ∃ V, W.alloc (.cells #[.int .i64 0] 3) = V := ⟨_, rfl⟩
  have L1 := Lib.hid (ST.out V hV)
  try rw [hV]
  clear ST hV
  go_wp2_with fail
  go_loopw [5, 6] (fun s5 s6 wx => ∃ t : Nat, s6 = .int .i64 t ∧ 1 ≤ t ∧ t ≤ N ∧ Hid (VL w a n cap p inc zs f t s5 wx)) (fun _ s6 _ => N - (intOf s6).toNat)
  case atStart => exact ⟨1, by go_num, by omega, by omega, L1⟩
  case round =>
    clear L1
    obtain ⟨t, rfl, ht1, htN, HS⟩ := hrel
    obtain ⟨wk, rfl⟩ : ∃ u : World, u = wr := ⟨_, rfl⟩
    obtain ⟨gb, c, rfl, hgb⟩ := HS.out.form ht1
    have HGB := Lib.hid hgb
    clear hgb
    by_cases hlt : t < N
    rotate_left
    · obtain rfl : t = N := by omega
      have hlti : ¬ (t : Int) < (t : Int) := by omega
      have HP := Lib.hid (show GivesVals f t w (.returned (.slice (some ⟨gb, 0, none⟩) t c)) _ from by
        obtain ⟨a9, c9, hv9, R9, X9⟩ := rowZ_of_owns HS.out.own (by omega) (fun i hi => by rw [firsts_length] at hi; rw [firsts_getD _ _ _ hi]; exact HIN.out i hi)
        cases hv9
        exact ⟨gb, c, rfl, HS.out.below, by have := HGB.out; omega, R9⟩)
      go_wp2_with fail
      exact bodyPost_ret (v := .slice (some ⟨gb, 0, none⟩) t c) (by simp [results, Try.results49, go_sem]) rfl HP.out
    have hlti : (t : Int) < (N : Int) := by omega
    obtain ⟨v, hv⟩ : ∃ v, atC zs p inc t = v := ⟨_, rfl⟩
    have HV := Lib.hid hv
    obtain ⟨c0, c1, c2, c3, c4, c5⟩ := HS.out.box
    clear hv
    go_wp2_with fail
    clear c0 c1 c2 c3 c4 c5
    with_reducible refine (rat_at a n cap zs p inc G0.out t t rfl (by omega) v HV.out _ (HS.out.h0.under HS.out.below)).mono ?_
    rintro e u3 ⟨rfl, hd⟩
    have HS1 := Lib.hid (HS.out.call hd)
    clear hd HS
    obtain ⟨u4, hu4⟩ : ∃ u, u3 = u := ⟨_, rfl⟩
    rw [hu4] at HS1
    try rw [hu4]
    clear hu4
    have hpt : enc (partTo (eClo zs p inc) (eC zs p inc t) t 0) = v := (enc_eC zs p inc t).trans HV.out
    have HPT := Lib.hid hpt
    clear hpt
    go_wp2_with fail
    go_loopw [7, 8] (fun s7 s8 wx => ∃ k : Nat, s8 = .int .i64 ((k + 1 : Nat) : Int) ∧ k + 1 ≤ t ∧ s7 = .int .i64 (enc (partTo (eClo zs p inc) (eC zs p inc t) t k)) ∧ Hid (VL w a n cap p inc zs f t (.slice (some ⟨gb, 0, none⟩) t c) wx)) (fun _ s8 _ => t - (intOf s8).toNat)
    case atStart => exact ⟨0, by go_num, by omega, by rw [HPT.out], HS1⟩
    case round =>
      clear HS1
      obtain ⟨k, rfl, hk, rfl, HT⟩ := hrel
      obtain ⟨wj, rfl⟩ : ∃ u : World, u = wr := ⟨_, rfl⟩
      obtain ⟨s, hs⟩ : ∃ s, k + 1 = s := ⟨_, rfl⟩
      rw [hs]
      obtain ⟨x, hx⟩ : ∃ x, enc (partTo (eClo zs p inc) (eC zs p inc t) t k) = x := ⟨_, rfl⟩
      rw [hx]
      by_cases hst : s < t
      rotate_left
      · have hsti : ¬ (s : Int) < (t : Int) := by omega
        have HFX := Lib.hid (show f t = x by
          have e := clo_step (eC zs p inc) k
          rw [← HF.out, ← hx, show t = k + 1 by omega]
          unfold encF eClo
          rw [e])
        clear hx
        have N8 : Hid (∀ q u, [Value.int .i64 x][q]? = some u → (wj.alloc (.cells #[.int .i64 x] 3)).cell? ((⟨wj.heap.size, 0, none⟩ : Addr).add q) = some u) := Lib.hid (World.news_of_block (cs := #[.int .i64 x]) (t := 3) (fr := (0, 0)) (heap_alloc_new wj _))
        have L8 := Lib.hid (HT.out.call ((Below.refl _ _).alloc (Nat.le_refl _) (.cells #[.int .i64 x] 3)))
        go_wp2_with (at_builtin; refine wpList_append_own _ rfl _ _ 22 rfl (w.heap.size + 1) 3 ii0 (.int .i64 0) 1 8 Try.underlying22 ihi ihz0 ihz1 ihz2 rfl (by decide) _ _ _ rfl L8.out.own ⟨wj.heap.size, 0, none⟩ 1 1 [.int .i64 x] rfl rfl N8.out ?c2 ?c3 ?c4 ?c5 ?_)
        case c2 => first | rfl | (intro u hu; simp at hu; subst hu; rfl)
        case c3 => unfold maxLen; omega
        case c4 => omega
        case c5 => first | exact L8.out.box.lt | (have := L8.out.box.lt; simp at this ⊢; omega)
        intro v' w9 hown' hgrow _
        have L9 := Lib.hid (L8.out.push hown' hgrow HFX.out)
        clear hown' hgrow L8 HT N8
        go_wp2_with fail
        go_roundw
        case rel => exact ⟨t + 1, by go_num, by omega, by omega, L9⟩
        case measure => simp [intOf]; omega
      have hsti : (s : Int) < (t : Int) := by omega
      obtain ⟨d, hd⟩ : ∃ d, t - s = d := ⟨_, rfl⟩
      have hdi : (t : Int) - (s : Int) = (d : Int) := by omega
      have hdw : IntKind.i64.wrap (d : Int) = (d : Int) := IntWalk.i64_in _ ⟨by omega, by omega⟩
      have hdt : d < t := by omega
      have hdti : (d : Int) < (t : Int) := by omega
      obtain ⟨y, hy⟩ : ∃ y, f s = y := ⟨_, rfl⟩
      obtain ⟨z, hz⟩ : ∃ z, f d = z := ⟨_, rfl⟩
      have hstep := part_step G0.out ht1 (by omega) (show k + 1 < t by omega)
      rw [hs, hd, hx, HF.out, hy, hz] at hstep
      have HM := Lib.hid (And.intro (show Mid y by rw [← hy, ← HF.out]; exact clo_mid G0.out (by omega)) (show Mid z by rw [← hz, ← HF.out]; exact clo_mid G0.out (by omega)))
      obtain ⟨m, hm⟩ : ∃ m, min x (plI y z) = m := ⟨_, rfl⟩
      rw [hm] at hstep
      obtain ⟨pv, hpv⟩ : ∃ pv, plI y z = pv := ⟨_, rfl⟩
      rw [hpv] at hm
      have hmin : (x ≤ pv ∧ x = m) ∨ (¬ x ≤ pv ∧ pv = m) := by omega
      have HST := Lib.hid hstep
      have HPV := Lib.hid hpv
      have HY := Lib.hid (And.intro hy hz)
      clear hx hy hz hpv hstep hm hd
      rcases hmin with ⟨hle, hm1⟩ | ⟨hle, hm1⟩
      · have hle2 : ¬ pv < x := by omega
        go_wp2_with fail
        have HT0 := Lib.hid (HT.out.call (Below.refl _ _).drew)
        refine wp_region_keeps (fun u => u.cell? ⟨gb, s, none⟩ = some (.int .i64 y) ∧ u.cell? ⟨gb, d, none⟩ = some (.int .i64 z) ∧ Hid (VL w a n cap p inc zs f t (.slice (some ⟨gb, 0, none⟩) t c) u)) 13 1 (by kernel_rfl) (by kernel_rfl) ⟨HT0.out.cell hst HY.out.1, HT0.out.cell hdt HY.out.2, HT0⟩ (fun hHeld0 => ?_)
        refine wpAnyK_take (i := 0) (v := ?_) rfl (by kernel_rfl) (fun _ _ _ h => h) (Or.inl ⟨by rfl, ?_⟩) (by assumption) ?_
        rotate_left
        · (intro w hSw; (try dsimp only at hSw); go_simp; try with_reducible rfl)
        try simp only [Act.put, List.getElem_toArray, List.getElem_cons_zero, List.getElem_cons_succ, List.setIfInBounds_toArray, List.set_cons_zero, List.set_cons_succ]
        refine wpAnyK_take (i := 1) (v := ?_) rfl (by kernel_rfl) (fun _ _ _ h => h) (Or.inl ⟨by rfl, ?_⟩) (by assumption) ?_
        rotate_left
        · (intro w hSw; (try dsimp only at hSw); go_simp; try with_reducible rfl)
        try simp only [Act.put, List.getElem_toArray, List.getElem_cons_zero, List.getElem_cons_succ, List.setIfInBounds_toArray, List.set_cons_zero, List.set_cons_succ]
        refine wpAnyK_take (i := 2) (v := ?_) rfl (by kernel_rfl) (fun _ _ _ h => h) (Or.inl ⟨by rfl, ?_⟩) (by assumption) ?_
        rotate_left
        · (intro w hSw; (try dsimp only at hSw); go_simp; try with_reducible rfl)
        try simp only [Act.put, List.getElem_toArray, List.getElem_cons_zero, List.getElem_cons_succ, List.setIfInBounds_toArray, List.set_cons_zero, List.set_cons_succ]
        refine wpAnyK_take (i := 3) (v := ?_) rfl (by kernel_rfl) (fun _ _ _ h => h) (Or.inl ⟨by rfl, ?_⟩) (by assumption) ?_
        rotate_left
        · (intro w hSw; (try dsimp only at hSw); go_simp; try with_reducible rfl)
        try simp only [Act.put, List.getElem_toArray, List.getElem_cons_zero, List.getElem_cons_succ, List.setIfInBounds_toArray, List.set_cons_zero, List.set_cons_succ]
        refine wpAnyK_take (i := 4) (v := ?_) rfl (by kernel_rfl) (fun _ _ _ h => h) (Or.inl ⟨by rfl, ?_⟩) (by assumption) ?_
        rotate_left
        · (intro w hSw; (try dsimp only at hSw); go_simp; try with_reducible rfl)
        try simp only [Act.put, List.getElem_toArray, List.getElem_cons_zero, List.getElem_cons_succ, List.setIfInBounds_toArray, List.set_cons_zero, List.set_cons_succ]
        refine wpAnyK_take (i := 5) (v := ?_) rfl (by kernel_rfl) (fun _ _ _ h => h) (Or.inl ⟨by rfl, ?_⟩) (by assumption) ?_
        rotate_left
        · (intro w hSw; (try dsimp only at hSw); go_simp; try with_reducible rfl)
        try simp only [Act.put, List.getElem_toArray, List.getElem_cons_zero, List.getElem_cons_succ, List.setIfInBounds_toArray, List.set_cons_zero, List.set_cons_succ]
        refine wpAnyK_take (i := 6) (v := ?_) rfl (by kernel_rfl) (fun _ _ _ h => h) (Or.inl ⟨by rfl, ?_⟩) (by assumption) ?_
        rotate_left
        · (intro w hSw; (try dsimp only at hSw); go_simp; try with_reducible rfl)
        try simp only [Act.put, List.getElem_toArray, List.getElem_cons_zero, List.getElem_cons_succ, List.setIfInBounds_toArray, List.set_cons_zero, List.set_cons_succ]
        refine wpAnyK_take (i := 7) (v := ?_) rfl (by kernel_rfl) (fun _ _ _ h => h) (Or.inl ⟨by rfl, ?_⟩) (by assumption) ?_
        rotate_left
        · (intro w hSw; (try dsimp only at hSw); go_simp; try with_reducible rfl)
        try simp only [Act.put, List.getElem_toArray, List.getElem_cons_zero, List.getElem_cons_succ, List.setIfInBounds_toArray, List.set_cons_zero, List.set_cons_succ]
        refine wpAnyK_take (i := 8) (v := ?_) rfl (by kernel_rfl) (fun _ _ _ h => h) (Or.inl ⟨by rfl, ?_⟩) (by assumption) ?_
        rotate_left
        · (intro w hSw; (try dsimp only at hSw); go_simp; try with_reducible rfl)
        try simp only [Act.put, List.getElem_toArray, List.getElem_cons_zero, List.getElem_cons_succ, List.setIfInBounds_toArray, List.set_cons_zero, List.set_cons_succ]
        refine wpAnyK_take (i := 9) (v := ?_) rfl (by kernel_rfl) (fun _ _ _ h => h) (Or.inl ⟨by rfl, ?_⟩) (by assumption) ?_
        rotate_left
        · (intro w hSw; (try dsimp only at hSw); go_simp; try with_reducible rfl)
        try simp only [Act.put, List.getElem_toArray, List.getElem_cons_zero, List.getElem_cons_succ, List.setIfInBounds_toArray, List.set_cons_zero, List.set_cons_succ]
        refine wpAnyK_take (i := 10) (v := ?_) rfl (by kernel_rfl) (fun _ _ _ h => h) (Or.inl ⟨by rfl, ?_⟩) (by assumption) ?_
        rotate_left
        · (intro w hSw; (try dsimp only at hSw); go_simp; try with_reducible rfl)
        try simp only [Act.put, List.getElem_toArray, List.getElem_cons_zero, List.getElem_cons_succ, List.setIfInBounds_toArray, List.set_cons_zero, List.set_cons_succ]
        refine wpAnyK_step (i := 11) rfl (by kernel_rfl) (fun K hK => ?_)
        go_simp
        with_reducible refine (plus9 y z HM.out.1 HM.out.2 pv HPV.out _).mono ?_
        rintro e u9 ⟨rfl, rfl⟩
        refine hK.out _ _ ⟨HT0.out.cell hst HY.out.1, HT0.out.cell hdt HY.out.2, HT0⟩ (fun hHeld1 => ?_)
        clear hK K hHeld0
        try simp only [Act.put, List.getElem_toArray, List.getElem_cons_zero, List.getElem_cons_succ, List.setIfInBounds_toArray, List.set_cons_zero, List.set_cons_succ]
        refine wpAnyK_take (i := 12) (v := ?_) rfl (by kernel_rfl) (fun _ _ _ h => h) (Or.inl ⟨by rfl, ?_⟩) (by assumption) ?_
        rotate_left
        · (intro w hSw; (try dsimp only at hSw); go_simp; try with_reducible rfl)
        try simp only [Act.put, List.getElem_toArray, List.getElem_cons_zero, List.getElem_cons_succ, List.setIfInBounds_toArray, List.set_cons_zero, List.set_cons_succ]
        refine wpAnyK_done (by kernel_rfl) ?_
        simp only [List.drop_succ_cons, List.drop_zero]
        clear hHeld1
        subst hm1
        go_wp2_with fail
        go_roundw
        case rel => exact ⟨k + 1, by go_num, by omega, by rw [hs, HST.out]; congr 1; split <;> omega, HT0⟩
        case measure => simp [intOf]; omega
      · have hle2 : pv < x := by omega
        go_wp2_with fail
        have HT0 := Lib.hid (HT.out.call (Below.refl _ _).drew)
        refine wp_region_keeps (fun u => u.cell? ⟨gb, s, none⟩ = some (.int .i64 y) ∧ u.cell? ⟨gb, d, none⟩ = some (.int .i64 z) ∧ Hid (VL w a n cap p inc zs f t (.slice (some ⟨gb, 0, none⟩) t c) u)) 13 1 (by kernel_rfl) (by kernel_rfl) ⟨HT0.out.cell hst HY.out.1, HT0.out.cell hdt HY.out.2, HT0⟩ (fun hHeld0 => ?_)
        refine wpAnyK_take (i := 0) (v := ?_) rfl (by kernel_rfl) (fun _ _ _ h => h) (Or.inl ⟨by rfl, ?_⟩) (by assumption) ?_
        rotate_left
        · (intro w hSw; (try dsimp only at hSw); go_simp; try with_reducible rfl)
        try simp only [Act.put, List.getElem_toArray, List.getElem_cons_zero, List.getElem_cons_succ, List.setIfInBounds_toArray, List.set_cons_zero, List.set_cons_succ]
        refine wpAnyK_take (i := 1) (v := ?_) rfl (by kernel_rfl) (fun _ _ _ h => h) (Or.inl ⟨by rfl, ?_⟩) (by assumption) ?_
        rotate_left
        · (intro w hSw; (try dsimp only at hSw); go_simp; try with_reducible rfl)
        try simp only [Act.put, List.getElem_toArray, List.getElem_cons_zero, List.getElem_cons_succ, List.setIfInBounds_toArray, List.set_cons_zero, List.set_cons_succ]
        refine wpAnyK_take (i := 2) (v := ?_) rfl (by kernel_rfl) (fun _ _ _ h => h) (Or.inl ⟨by rfl, ?_⟩) (by assumption) ?_
        rotate_left
        · (intro w hSw; (try dsimp only at hSw); go_simp; try with_reducible rfl)
        try simp only [Act.put, List.getElem_toArray, List.getElem_cons_zero, List.getElem_cons_succ, List.setIfInBounds_toArray, List.set_cons_zero, List.set_cons_succ]
        refine wpAnyK_take (i := 3) (v := ?_) rfl (by kernel_rfl) (fun _ _ _ h => h) (Or.inl ⟨by rfl, ?_⟩) (by assumption) ?_
        rotate_left
        · (intro w hSw; (try dsimp only at hSw); go_simp; try with_reducible rfl)
        try simp only [Act.put, List.getElem_toArray, List.getElem_cons_zero, List.getElem_cons_succ, List.setIfInBounds_toArray, List.set_cons_zero, List.set_cons_succ]
        refine wpAnyK_take (i := 4) (v := ?_) rfl (by kernel_rfl) (fun _ _ _ h => h) (Or.inl ⟨by rfl, ?_⟩) (by assumption) ?_
        rotate_left
        · (intro w hSw; (try dsimp only at hSw); go_simp; try with_reducible rfl)
        try simp only [Act.put, List.getElem_toArray, List.getElem_cons_zero, List.getElem_cons_succ, List.setIfInBounds_toArray, List.set_cons_zero, List.set_cons_succ]
        refine wpAnyK_take (i := 5) (v := ?_) rfl (by kernel_rfl) (fun _ _ _ h => h) (Or.inl ⟨by rfl, ?_⟩) (by assumption) ?_
        rotate_left
        · (intro w hSw; (try dsimp only at hSw); go_simp; try with_reducible rfl)
        try simp only [Act.put, List.getElem_toArray, List.getElem_cons_zero, List.getElem_cons_succ, List.setIfInBounds_toArray, List.set_cons_zero, List.set_cons_succ]
        refine wpAnyK_take (i := 6) (v := ?_) rfl (by kernel_rfl) (fun _ _ _ h => h) (Or.inl ⟨by rfl, ?_⟩) (by assumption) ?_
        rotate_left
        · (intro w hSw; (try dsimp only at hSw); go_simp; try with_reducible rfl)
        try simp only [Act.put, List.getElem_toArray, List.getElem_cons_zero, List.getElem_cons_succ, List.setIfInBounds_toArray, List.set_cons_zero, List.set_cons_succ]
        refine wpAnyK_take (i := 7) (v := ?_) rfl (by kernel_rfl) (fun _ _ _ h => h) (Or.inl ⟨by rfl, ?_⟩) (by assumption) ?_
        rotate_left
        · (intro w hSw; (try dsimp only at hSw); go_simp; try with_reducible rfl)
        try simp only [Act.put, List.getElem_toArray, List.getElem_cons_zero, List.getElem_cons_succ, List.setIfInBounds_toArray, List.set_cons_zero, List.set_cons_succ]
        refine wpAnyK_take (i := 8) (v := ?_) rfl (by kernel_rfl) (fun _ _ _ h => h) (Or.inl ⟨by rfl, ?_⟩) (by assumption) ?_
        rotate_left
        · (intro w hSw; (try dsimp only at hSw); go_simp; try with_reducible rfl)
        try simp only [Act.put, List.getElem_toArray, List.getElem_cons_zero, List.getElem_cons_succ, List.setIfInBounds_toArray, List.set_cons_zero, List.set_cons_succ]
        refine wpAnyK_take (i := 9) (v := ?_) rfl (by kernel_rfl) (fun _ _ _ h => h) (Or.inl ⟨by rfl, ?_⟩) (by assumption) ?_
        rotate_left
        · (intro w hSw; (try dsimp only at hSw); go_simp; try with_reducible rfl)
        try simp only [Act.put, List.getElem_toArray, List.getElem_cons_zero, List.getElem_cons_succ, List.setIfInBounds_toArray, List.set_cons_zero, List.set_cons_succ]
        refine wpAnyK_take (i := 10) (v := ?_) rfl (by kernel_rfl) (fun _ _ _ h => h) (Or.inl ⟨by rfl, ?_⟩) (by assumption) ?_
        rotate_left
        · (intro w hSw; (try dsimp only at hSw); go_simp; try with_reducible rfl)
        try simp only [Act.put, List.getElem_toArray, List.getElem_cons_zero, List.getElem_cons_succ, List.setIfInBounds_toArray, List.set_cons_zero, List.set_cons_succ]
        refine wpAnyK_step (i := 11) rfl (by kernel_rfl) (fun K hK => ?_)
        go_simp
        with_reducible refine (plus9 y z HM.out.1 HM.out.2 pv HPV.out _).mono ?_
        rintro e u9 ⟨rfl, rfl⟩
        refine hK.out _ _ ⟨HT0.out.cell hst HY.out.1, HT0.out.cell hdt HY.out.2, HT0⟩ (fun hHeld1 => ?_)
        clear hK K hHeld0
        try simp only [Act.put, List.getElem_toArray, List.getElem_cons_zero, List.getElem_cons_succ, List.setIfInBounds_toArray, List.set_cons_zero, List.set_cons_succ]
        refine wpAnyK_take (i := 12) (v := ?_) rfl (by kernel_rfl) (fun _ _ _ h => h) (Or.inl ⟨by rfl, ?_⟩) (by assumption) ?_
        rotate_left
        · (intro w hSw; (try dsimp only at hSw); go_simp; try with_reducible rfl)
        try simp only [Act.put, List.getElem_toArray, List.getElem_cons_zero, List.getElem_cons_succ, List.setIfInBounds_toArray, List.set_cons_zero, List.set_cons_succ]
        refine wpAnyK_done (by kernel_rfl) ?_
        simp only [List.drop_succ_cons, List.drop_zero]
        clear hHeld1
        subst hm1
        go_wp2_with fail
        go_roundw
        case rel => exact ⟨k + 1, by go_num, by omega, by rw [hs, HST.out]; congr 1; split <;> omega, HT0⟩
        case measure => simp [intOf]; omega

end Go.Proofs.Ytjjaaknjdmijbaa
