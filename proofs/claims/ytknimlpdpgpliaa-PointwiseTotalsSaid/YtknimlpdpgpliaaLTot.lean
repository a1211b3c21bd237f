/- Flat(0), Total of a list of curves, and Mixed(4). By the verifier's side. -/
import Derived.Test.YtknimlpdpgpliaaLTotM
import Derived.Test.YtknimlpdpgpliaaLCurSCurLCurW
import Derived.Test.YtknimlpdpgpliaaLBaseApartPickKeepS
import Derived.BigRegion
namespace Go.Proofs.Ytknimlpdpgpliaa
open Go.RowKit
set_option linter.unusedSimpArgs false

theorem flat_good : Good (firsts (fun _ => (0 : Int)) 2) 1 0 := (okC_iff [0, 0] 1 0).1 (by decide)
theorem flat_eC (t : Nat) : eC (firsts (fun _ => (0 : Int)) 2) 1 0 t = some 0 := by
  have hf : ¬ InfC (firsts (fun _ => (0 : Int)) 2) := by rw [infC_iff]; decide
  rw [eC_fin hf]
  congr 1
  induction t with
  | zero => decide
  | succ t ih =>
    by_cases h : t = 0
    · subst h; decide
    · have := flat_good.per hf t (by show 2 - 1 ≤ t; omega)
      omega

set_option maxHeartbeats 400000 in
theorem flat_at (rb : Nat) (ti : Int) (t : Nat) (hti : ti = t) (v : Int) (hv : (0 : Int) = v) (w : World) (hc : w.cell? ⟨rb, 0, none⟩ = some (.int .i64 0)) :
    Calls Try.prog 119 #[.int .i64 ti, .pointer (some ⟨rb, 0, none⟩)] w fun e w' => e = .returned (.int .i64 v) ∧ w = w' := by
  subst hti hv
  rcases Nat.eq_zero_or_pos t with rfl | ht
  · go_enter Try.func119, Try.ntmps119
    go_wp2_with fail
    go_ret
    exact ⟨rfl, rfl⟩
  · have h1 : ((t : Int) == 0) = false := by rw [beq_eq_false_iff_ne]; omega
    have h2 : ¬ t = 0 := by omega
    clear ht
    go_enter Try.func119, Try.ntmps119
    go_wp2_with fail
    go_ret
    exact ⟨rfl, rfl⟩

set_option maxHeartbeats 800000 in
theorem flat_norm (w : World) : Calls Try.prog 72 #[.int .i64 0] w (GivesNorm2 (firsts (fun _ => 0) 2) 1 0 w) := by
  have hmf : ∀ (fn : Fn) (first cap : Array Value) (w : World), (Instr.makeFunc fn first cap).run Try.prog w = .ok (.func fn first cap) w := fun _ _ _ _ => rfl
  have KR := Lib.hid (Cur3.new2 w (.slice none 0 0) (.int .i64 0) (.int .i64 0) 26 (.cells #[.int .i64 0] 3))
  have HB := Lib.hid (((Below.refl _ _).alloc (Nat.le_refl _) (.cells #[.int .i64 0] 3)).alloc (by simp) (.cells #[.slice none 0 0, .int .i64 0, .int .i64 0] 26) : Below w.heap.size w _)
  go_enter Try.func72, Try.ntmps72
  go_wp2_with fail
  refine (fault_ok 0 1073741824 (by omega) (by omega) _).mono ?_
  rintro e w1 ⟨rfl, rfl⟩
  go_wp2_with fail
  have hc : ((w.alloc (.cells #[.int .i64 0] 3)).alloc (.cells #[.slice none 0 0, .int .i64 0, .int .i64 0] 26)).cell? ⟨w.heap.size, 0, none⟩ = some (.int .i64 0) := by go_simp
  have HC := Lib.hid hc
  clear hc
  refine (steady_any 119 w.heap.size (fun _ => 0) (fun t ht => ⟨Int.le_refl _, by omega⟩) 1 (by omega) _ (enters_of Try.func119 (by kernel_rfl) rfl) (fun ti t v w' hti ht hv hb => flat_at w.heap.size ti t hti v hv _ ((hb.cell (lt_of_cell HC.out)).trans HC.out)) 0 (by omega) flat_good).mono ?_
  rintro e w2 ⟨a', n', cap', zs', p', inc', rfl, hb2, hr2, hn2, hx2⟩
  obtain ⟨c0, c1, c2, f0, f1, f2⟩ := KR.out.below hb2
  have hlt3 := KR.out.lt
  have HP := Lib.hid (norm_post2 (b := w.heap.size + 1) (HB.out.trans (hb2.mono HB.out.size)) (Nat.le_succ _) hr2 (fun y hy => by have := hx2 y hy; omega) p' inc' hn2)
  clear hb2 hr2 hn2 hx2 hlt3
  go_wp2_with fail
  exact bodyPost_ret (v := .tuple #[curV a' n' cap' p' inc', .int .i64 0]) (by simp [results, Try.results72, go_sem, c0, c1, c2]) rfl HP.out

theorem flat0 (w : World) : Calls Try.prog 72 #[.int .i64 0] w (GivesOk (fun _ => some 0) w) := by
  refine (flat_norm w).mono ?_
  rintro e v ⟨a, n, cap, zs, p, inc, rfl, hb, hr, hn, hx⟩
  have hf := hn.eform flat_good
  rw [show eC (firsts (fun _ => (0 : Int)) 2) 1 0 = fun _ => some 0 from funext flat_eC] at hf
  exact ⟨a, n, cap, zs, p, inc, rfl, hb, hr, hf, hx⟩

/-! ## The sum of a list -/

structure TotS (w wx : World) (T : Nat) (cs : List Cv) (k : Nat) (a : Option Addr) (n cap : Nat) (zs : List Int) (p : Nat) (inc : Int) : Prop where
  res : Cur3 wx w.heap.size (.slice none 0 0) (.int .i64 0) (.int .i64 0)
  box : Bx wx T a n cap p inc zs
  form : EForm zs p inc (tot (cs.take k))
  far : ∀ x, a = some x → 1 ≤ n → w.heap.size < x.block ∧ x.block ≠ T
  below : Below w.heap.size w wx

theorem TotS.post {w wx : World} {T : Nat} {cs : List Cv} {k : Nat} {a : Option Addr} {n cap : Nat} {zs : List Int} {p : Nat} {inc : Int} (h : TotS w wx T cs k a n cap zs p inc) (hk : cs.length = k) :
    GivesOk (tot cs) w (.returned (.tuple #[curV a n cap p inc, .int .i64 0])) (((wx.setCell ⟨w.heap.size, 0, none⟩ (.slice a n cap)).setCell ⟨w.heap.size, 1, none⟩ (.int .i64 p)).setCell ⟨w.heap.size, 2, none⟩ (.int .i64 inc)) := by
  have hx : ∀ x, a = some x → 1 ≤ n → x.block ≠ w.heap.size := fun x h1 h2 => by have := (h.far x h1 h2).1; omega
  have hf := h.form
  rw [List.take_of_length_le (by omega)] at hf
  have hn : 1 ≤ n := by have := h.box.row.len; have := hf.1.p1; have := hf.1.p3; omega
  exact ⟨a, n, cap, zs, p, inc, rfl, below_set3 h.below (Nat.le_refl _) _ _ _, ((h.box.row.store hx _ _).store hx _ _).store hx _ _, hf, fun x h1 => by have := (h.far x h1 hn).1; omega⟩

set_option maxRecDepth 100000 in
set_option maxHeartbeats 3200000 in
theorem total_any (B K cap : Nat) (cs : List Cv) (hk : cs.length = K) (hk9 : K ≤ 1000) (w : World) (h : ListC w B cs) :
    Calls Try.prog 18 #[.slice (some ⟨B, 0, none⟩) K cap] w (GivesOk (tot cs) w) := by
  have HL := Lib.hid h
  have HK := Lib.hid hk
  have KR := Lib.hid (Cur3.new w (.slice none 0 0) (.int .i64 0) (.int .i64 0) 26)
  have HB := Lib.hid (below_box (w := w) (.cells #[.slice none 0 0, .int .i64 0, .int .i64 0] 26))
  have HN := Lib.hid (tot_nice cs fun i c hc => (h i c hc).2.nice)
  clear h hk
  go_enter Try.func18, Try.ntmps18
  go_wp2_with fail
  refine (flat0 _).mono ?_
  rintro e v1 ⟨a0, n0, cap0, z0, p0, i0, rfl, hb, hr, hf, hx⟩
  obtain ⟨w1, hw⟩ : ∃ W, v1.alloc (.cells #[.slice a0 n0 cap0, .int .i64 p0, .int .i64 i0] 26) = W := ⟨_, rfl⟩
  have hz : Below v1.heap.size v1 w1 := by rw [← hw]; exact below_box _
  have T1 := Lib.hid (show TotS w w1 v1.heap.size cs 0 a0 n0 cap0 z0 p0 i0 from ⟨(KR.out.below hb).below hz, by rw [← hw]; exact Bx.new hr, hf, fun x h1 h2 => ⟨by have := hx x h1; simp at this; omega, by have := hr.far x h1 h2; omega⟩, (HB.out.trans (hb.mono HB.out.size)).trans (hz.mono (HB.out.trans (hb.mono HB.out.size)).size)⟩)
  have HT := Lib.hid (show w.heap.size < v1.heap.size by have := hb.size; simp at this; omega)
  have hw1 := hw
  clear hb hr hf hx hw hz
  go_wp2_with fail
  try rw [hw1]
  clear hw1
  go_loopw [5, 14] (fun s5 s14 wx => ∃ (k : Nat) (a : Option Addr) (n cap : Nat) (zs : List Int) (p : Nat) (inc : Int), s14 = .int .i64 k ∧ s5 = .int .i64 0 ∧ k ≤ K ∧ Hid (TotS w wx v1.heap.size cs k a n cap zs p inc)) (fun _ s14 _ => K - (intOf s14).toNat)
  case atStart => exact ⟨0, a0, n0, cap0, z0, p0, i0, by go_num, rfl, Nat.zero_le _, T1⟩
  case round =>
    obtain ⟨k, a, n, cap, zs, p, inc, rfl, rfl, hkK, HS⟩ := hrel
    obtain ⟨wk, rfl⟩ : ∃ u : World, u = wr := ⟨_, rfl⟩
    by_cases hlt : k < K
    · obtain ⟨c, hc⟩ : ∃ c, cs[k]? = some c := ⟨_, List.getElem?_eq_getElem (by rw [HK.out]; exact hlt)⟩
      obtain ⟨⟨l0, l1, l2⟩, hci⟩ := (HL.out.under HS.out.below) k c hc
      have HC := Lib.hid hc
      have HI := Lib.hid hci
      obtain ⟨w2, hw⟩ : ∃ W, wk.alloc (.cells #[.slice c.a c.n c.cap, .int .i64 c.p, .int .i64 c.inc] 26) = W := ⟨_, rfl⟩
      have hz : Below wk.heap.size wk w2 := by rw [← hw]; exact below_box _
      have XB := Lib.hid (HS.out.box.under hz)
      have XF := Lib.hid (show Bx w2 wk.heap.size c.a c.n c.cap c.p c.inc c.zs by rw [← hw]; exact Bx.new hci.row)
      have RS := Lib.hid (HS.out.res.below hz)
      have BL := Lib.hid (HS.out.below.trans (hz.mono HS.out.below.size))
      have h15 : (k : Int) < K := by omega
      have hwr := hw
      obtain ⟨e0, e1, e2, e3, e4, e5⟩ := XB.out.box
      obtain ⟨d0, d1, d2, d3, d4, d5⟩ := XF.out.box
      clear hc hci hw hz
      go_wp2_with fail
      try rw [hwr]
      clear hwr e0 e1 e2 e3 e4 e5 d0 d1 d2 d3 d4 d5 l0 l1 l2
      have NE := Lib.hid (show tot (cs.take (k + 1)) = eSum zs p inc c.zs c.p c.inc from (tot_take HC.out).trans (funext fun t => by unfold eSum; rw [HS.out.form.val t]; rfl))
      have DE := Lib.hid (show Day (eC c.zs c.p c.inc) from HI.out.nice.day)
      have N1 := Lib.hid (HN.out k (by rw [HK.out]; omega))
      have N2 := Lib.hid (HN.out (k + 1) (by rw [HK.out]; omega))
      with_reducible refine ((sum_day a n cap zs p inc HS.out.form.good c.a c.n c.cap c.zs c.p c.inc HI.out.good (N1.out.day.of HS.out.form.val) DE.out _ XB.out.row XF.out.row).mono fun _ _ h => (h.to NE.out.symm).ok (N2.out.can (by omega))).mono ?_
      rintro e v3 ⟨a3, n3, cap3, z3, p3, i3, rfl, hb, hr, hf, hx⟩
      have q1 := XB.out.box.lt
      obtain ⟨w3, hw⟩ : ∃ W, (((v3.setCell ⟨v1.heap.size, 0, none⟩ (.slice a3 n3 cap3)).setCell ⟨v1.heap.size, 1, none⟩ (.int .i64 p3)).setCell ⟨v1.heap.size, 2, none⟩ (.int .i64 i3)) = W := ⟨_, rfl⟩
      have T3 := Lib.hid (show TotS w w3 v1.heap.size cs (k + 1) a3 n3 cap3 z3 p3 i3 by
        have q2 := HT.out
        rw [← hw]
        exact ⟨(((RS.out.below hb).other (by omega) _ _).other (by omega) _ _).other (by omega) _ _, (XB.out.under hb).put hr (fun x h1 h2 => by have := hx x h1; omega), hf, fun x h1 h2 => by have := hx x h1; omega, below_set3 (BL.out.trans (hb.mono BL.out.size)) (by omega) _ _ _⟩)
      obtain ⟨e0, e1, e2, e3, e4, e5⟩ := (XB.out.under hb).box
      have hwr := hw
      clear hb hr hf hx hw q1
      go_wp2_with fail
      try rw [hwr]
      clear hwr e0 e1 e2 e3 e4 e5
      go_roundw
      case rel => exact ⟨k + 1, a3, n3, cap3, z3, p3, i3, by go_num, rfl, by omega, T3⟩
      case measure => simp [intOf]; omega
    · obtain rfl : K = k := by omega
      have HP := Lib.hid (HS.out.post HK.out)
      obtain ⟨e0, e1, e2, e3, e4, e5⟩ := HS.out.box.box
      obtain ⟨c0, c1, c2, f0, f1, f2⟩ := HS.out.res
      go_wp2_with fail
      exact bodyPost_ret (v := .tuple #[curV a n cap p inc, .int .i64 0]) (by simp [results, Try.results18, go_sem, c0, c1, c2]) rfl HP.out

/-! ## Four numbers in some order -/

def GivesMix (b : Nat) (a : Option Addr) (n cap : Nat) (w : World) (e : Ending) (w' : World) : Prop :=
  ∃ (B : Nat) (z0 z1 z2 z3 : Int), e = .returned (.slice (some ⟨B, 0, none⟩) 4 4) ∧ Row4 w' B z0 z1 z2 z3 ∧ P4 z0 z1 z2 z3 ∧ SrcAt w' b a n cap ∧ Apart b w w' ∧ w.heap.size ≤ B

theorem row4_made (w : World) (t : TypeId) : Row4 (w.alloc (.cells #[.int .i64 0, .int .i64 0, .int .i64 0, .int .i64 0] t)) w.heap.size 0 0 0 0 :=
  ⟨by go_simp, by go_simp, by go_simp, by go_simp, by go_simp, by go_simp, by go_simp, by go_simp⟩

set_option maxRecDepth 100000 in
set_option maxHeartbeats 3200000 in
theorem mixed4 (b : Nat) (a : Option Addr) (n cap : Nat) (w : World) (h : SrcAt w b a n cap) :
    Calls Try.prog 17 #[.pointer (some ⟨b, 0, none⟩), .int .i64 4] w (GivesMix b a n cap w) := by
  have HS := Lib.hid h
  have hbl : b < w.heap.size := h.lt
  have HD0 := Lib.hid ((Held.start h).alloc (.cells #[.int .i64 0, .int .i64 0, .int .i64 0, .int .i64 0] 3))
  have R0 := Lib.hid (row4_made w 3)
  have hmk : ∀ (w : World), (Instr.makeSlice 22 (.int .i64 4) (.int .i64 4)).run Try.prog w = .ok (.slice (some ⟨w.heap.size, 0, none⟩) 4 4) (w.alloc (.cells #[.int .i64 0, .int .i64 0, .int .i64 0, .int .i64 0] 3)) := fun w => by kernel_rfl
  obtain ⟨w1, hw⟩ : ∃ W, w.alloc (.cells #[.int .i64 0, .int .i64 0, .int .i64 0, .int .i64 0] 3) = W := ⟨_, rfl⟩
  rw [hw] at HD0 R0
  clear h
  go_enter Try.func17, Try.ntmps17
  go_wp2_with fail
  try rw [hw]
  clear hw
  go_loopw [13] (fun s13 wx => ∃ k : Nat, s13 = .int .i64 k ∧ k ≤ 4 ∧ Hid (Row4 wx w.heap.size 0 (if 1 < k then 1 else 0) (if 2 < k then 2 else 0) (if 3 < k then 3 else 0)) ∧ Hid (Held w b a n cap wx)) (fun s13 _ => 4 - (intOf s13).toNat)
  case atStart => exact ⟨0, by go_num, by omega, R0, HD0⟩
  case round =>
    obtain ⟨k, rfl, hk, HR, HD⟩ := hrel
    obtain ⟨wk, rfl⟩ : ∃ u : World, u = wr := ⟨_, rfl⟩
    rcases (show k = 0 ∨ k = 1 ∨ k = 2 ∨ k = 3 ∨ k = 4 by omega) with rfl | rfl | rfl | rfl | rfl
    · obtain ⟨c0, c1, c2, c3, f0, f1, f2, f3⟩ := HR.out
      have HR2 := Lib.hid (HR.out.set (i := 0) (by omega) 0)
      have HD2 := Lib.hid (HD.out.set hbl (p := ⟨w.heap.size, 0, none⟩) (Nat.le_refl _) (.int .i64 0))
      go_wp2_with fail
      go_roundw
      case rel => exact ⟨1, by go_num, by omega, HR2, HD2⟩
      case measure => simp [intOf]
    · obtain ⟨c0, c1, c2, c3, f0, f1, f2, f3⟩ := HR.out
      have HR2 := Lib.hid (HR.out.set (i := 1) (by omega) 1)
      have HD2 := Lib.hid (HD.out.set hbl (p := ⟨w.heap.size, 1, none⟩) (Nat.le_refl _) (.int .i64 1))
      go_wp2_with fail
      go_roundw
      case rel => exact ⟨2, by go_num, by omega, HR2, HD2⟩
      case measure => simp [intOf]
    · obtain ⟨c0, c1, c2, c3, f0, f1, f2, f3⟩ := HR.out
      have HR2 := Lib.hid (HR.out.set (i := 2) (by omega) 2)
      have HD2 := Lib.hid (HD.out.set hbl (p := ⟨w.heap.size, 2, none⟩) (Nat.le_refl _) (.int .i64 2))
      go_wp2_with fail
      go_roundw
      case rel => exact ⟨3, by go_num, by omega, HR2, HD2⟩
      case measure => simp [intOf]
    · obtain ⟨c0, c1, c2, c3, f0, f1, f2, f3⟩ := HR.out
      have HR2 := Lib.hid (HR.out.set (i := 3) (by omega) 3)
      have HD2 := Lib.hid (HD.out.set hbl (p := ⟨w.heap.size, 3, none⟩) (Nat.le_refl _) (.int .i64 3))
      go_wp2_with fail
      go_roundw
      case rel => exact ⟨4, by go_num, by omega, HR2, HD2⟩
      case measure => simp [intOf]
    · have HR1 := Lib.hid (show Row4 wk w.heap.size 0 1 2 3 from HR.out)
      clear HR
      go_wp2_with fail
      go_loopw [7] (fun s7 wx => ∃ (i : Nat) (z0 z1 z2 z3 : Int), s7 = .int .i64 i ∧ i ≤ 3 ∧ Hid (Row4 wx w.heap.size z0 z1 z2 z3) ∧ Hid (P4 z0 z1 z2 z3) ∧ Hid (Held w b a n cap wx)) (fun s7 _ => (intOf s7).toNat)
      case atStart => exact ⟨3, 0, 1, 2, 3, by go_num, by omega, HR1, P4.id, HD⟩
      case round =>
        obtain ⟨i, z0, z1, z2, z3, rfl, hi, HR, HP, HE⟩ := hrel
        obtain ⟨w4, rfl⟩ : ∃ u : World, u = wr := ⟨_, rfl⟩
        by_cases hpos : 0 < i
        · have hp1 : (0 : Int) < i := by omega
          go_wp2_with fail
          refine (n_any ((i : Int) + 1) (by omega) (by omega) b a n cap _ (HE.out.at HS.out)).mono ?_
          rintro e w5 ⟨r, ⟨r0, r1⟩, rfl, hs, he⟩
          obtain ⟨j, rfl⟩ := Int.eq_ofNat_of_zero_le r0
          have HR5 := Lib.hid (HR.out.apart he.apart (by omega))
          have HD5 := Lib.hid (HE.out.call hs he.apart)
          have hi4 : i < 4 := by omega
          have hj4 : j < 4 := by omega
          obtain ⟨x, hx⟩ : ∃ x, Row4.get z0 z1 z2 z3 i = x := ⟨_, rfl⟩
          obtain ⟨y, hy⟩ : ∃ y, Row4.get z0 z1 z2 z3 j = y := ⟨_, rfl⟩
          have HSW := Lib.hid (HP.out.swap hi4 hj4 hx hy)
          have q1 := HR5.out.cell hi4
          have q2 := HR5.out.cell hj4
          rw [hx] at q1
          rw [hy] at q2
          obtain ⟨c0, f0⟩ := q1
          obtain ⟨c1, f1⟩ := q2
          have hi5 : (i : Int) < 4 := by omega
          have hj5 : (j : Int) < 4 := by omega
          clear hs he r0 r1 hx hy HR HP HE
          go_wp2_with fail
          have HE1 := Lib.hid (((HR5.out.set hi4 y).set hj4 x).under (Below.drew (Below.refl _ _)))
          have HE2 := Lib.hid ((HD5.out.set hbl (p := ⟨w.heap.size, i, none⟩) (Nat.le_refl _) (.int .i64 y)).set hbl (p := ⟨w.heap.size, j, none⟩) (Nat.le_refl _) (.int .i64 x)).drew
          by_cases hij : i = j
          · subst hij
            obtain rfl : x = y := by rw [c0] at c1; injection c1 with e; injection e
            go_region
            go_wp2_with fail
            go_roundw
            case rel => (repeat apply Exists.intro); exact ⟨⟨i - 1, _, _, _, _, by go_num, by omega, HE1, HSW, HE2⟩, rfl⟩
            case measure => simp [intOf]; omega
          · have hji : ¬ j = i := fun e => hij e.symm
            go_region
            go_wp2_with fail
            go_roundw
            case rel => (repeat apply Exists.intro); exact ⟨⟨i - 1, _, _, _, _, by go_num, by omega, HE1, HSW, HE2⟩, rfl⟩
            case measure => simp [intOf]; omega
        · obtain rfl : i = 0 := by omega
          have HP := Lib.hid (show GivesMix b a n cap w (.returned (.slice (some ⟨w.heap.size, 0, none⟩) 4 4)) w4 from ⟨_, z0, z1, z2, z3, rfl, HR.out, HP.out, HE.out.at HS.out, HE.out.ap, Nat.le_refl _⟩)
          go_wp2_with fail
          go_ret
          exact HP.out

end Go.Proofs.Ytknimlpdpgpliaa
