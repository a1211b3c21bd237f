/- Least of package conform: the normal form of the greatest numbers of bytes in so many ticks. By the verifier's side. -/
import Derived.Test.YtknimlpdpgpliaaFCfL0CfQ
import Derived.Test.YtknimlpdpgpliaaFCfR
import Derived.Test.YtknimlpdpgpliaaFRTrG
import Derived.Test.YtknimlpdpgpliaaFTrMTrN
namespace Go.Proofs.Ytknimlpdpgpliaa
open Go.RowKit Go.Shelf
set_option linter.unusedSimpArgs false
set_option linter.unusedVariables false

theorem asc_pat {l : List Pk} (ha : Asc l) {i j : Nat} (h : i ≤ j) (hj : j < l.length) : (pat l i).t ≤ (pat l j).t := by
  rw [pat_of (List.getElem?_eq_getElem (by omega : i < l.length)), pat_of (List.getElem?_eq_getElem hj)]
  rcases Nat.lt_or_eq_of_le h with h | rfl
  · exact (List.pairwise_iff_getElem.1 ha) i j (by omega) hj h
  · exact Int.le_refl _
/-- In so many ticks all arrives. -/
theorem frs_zero {l : List Pk} (ha : Asc l) {k : Int} (hk : (lstS l : Int) ≤ k) {j : Nat} (hj : j < l.length) : frs l k j = 0 := by
  unfold frs cnt
  rw [List.length_eq_zero_iff, List.filter_eq_nil_iff]
  intro x hx
  obtain ⟨i, hi, rfl⟩ := List.getElem_of_mem hx
  have h1 := asc_pat ha (Nat.zero_le i) hi
  have h2 := asc_pat ha (show j ≤ l.length - 1 by omega) (by omega)
  rw [pat_of (List.getElem?_eq_getElem hi)] at h1
  unfold lstS at hk
  rw [if_neg (by intro e; rw [e] at hj; cases hj)] at hk
  simp only [decide_eq_true_eq]
  omega
theorem busy_all {l : List Pk} (ho : ∀ q ∈ l, okP q = true) (ha : Asc l) {k : Int} (hk : (lstS l : Int) ≤ k) : busy l k = sumG Pk.s l := by
  have key : ∀ j, j ≤ l.length → bzN l k j = sumG Pk.s (l.take j) := fun j => by
    induction j with
    | zero => intro _; rfl
    | succ j ih =>
      intro hj
      have hq : l[j]? = some (l[j]) := List.getElem?_eq_getElem hj
      have hw := win_take (l := l) (f := 0) (Nat.zero_le j) hq
      have hp := (okP_iff _).1 (ho _ (List.getElem_mem hj))
      show max (bzN l k j) (win l k j) = _
      unfold win
      rw [ih (by omega), frs_zero ha hk hj, List.drop_zero]
      rw [List.drop_zero, List.drop_zero] at hw
      omega
  unfold busy
  rw [key _ (Nat.le_refl _), List.take_length]
theorem lst_per {l : List Pk} (ho : ∀ q ∈ l, okP q = true) (ha : Asc l) {s : Nat} (hs : (s : Int) = max (lstS l : Int) 1) : Per (lstF l) s 1 0 := fun t ht => by
  unfold lstF
  rw [if_neg (by omega), if_neg (by omega), busy_all ho ha (by omega), busy_all ho ha (by omega)]
  omega
theorem lst_bd {l : List Pk} (ho : ∀ q ∈ l, okP q = true) (hl : l.length ≤ 60) (t : Nat) : 0 ≤ lstF l t ∧ lstF l t ≤ 90000 := by
  unfold lstF
  split
  · omega
  · exact bzN_bd ho hl _ _
theorem lstS_le {l : List Pk} (ho : ∀ q ∈ l, okP q = true) : lstS l ≤ 2001 := by
  unfold lstS
  split
  · omega
  · rename_i h
    have hl : 0 < l.length := List.length_pos_iff.2 h
    have h1 := (okP_iff _).1 (ho _ (List.getElem_mem (show l.length - 1 < l.length by omega)))
    have h2 := (okP_iff _).1 (ho _ (List.getElem_mem hl))
    rw [pat_of (List.getElem?_eq_getElem (show l.length - 1 < l.length by omega)), pat_of (List.getElem?_eq_getElem hl)]
    omega

set_option maxHeartbeats 800000 in
theorem least1w {w : World} {bv : Nat} {a : Option Addr} {n cap : Nat} {l : List Pk} (hok : ∀ q ∈ l, okP q = true) (has : Asc l) (hl60 : l.length ≤ 60) (hv : w.cell? ⟨bv, 0, none⟩ = some (.slice a n cap)) (h : PkR w a n cap l) (T : Nat) (hT : T ≤ 4000) :
    ClosW1 110 #[.pointer (some ⟨bv, 0, none⟩)] T (fun t => busy l t) w := by
  rintro ti t v w' rfl ht1 ht hv' hbw
  show Calls Try.prog 110 #[.int .i64 t, .pointer (some ⟨bv, 0, none⟩)] w' (SaysB (.int .i64 v) w')
  have c1 := (hbw.cell (lt_of_cell hv)).trans hv
  have HC := Lib.hid (busiest14 a n cap l t (by omega) (by omega) hok has hl60 w' (h.under hbw))
  have HV := Lib.hid (show busy l t = v from hv')
  clear hv hbw hv' h hok has
  go_enter Try.func110, Try.ntmps110
  go_wp2_with fail
  refine HC.out.mono ?_
  rintro e w1 ⟨rfl, hb1⟩
  go_wp2_with fail
  go_ret
  exact ⟨by rw [HV.out]; rfl, hb1⟩

theorem fcode_ok {l : List Pk} {fl : Int} (h : fcode l fl = 0) : vcode l = 0 ∧ -1 ≤ fl := by
  unfold fcode at h
  by_cases hv : vcode l = 0
  · rw [if_pos hv] at h
    by_cases hf : fl < -1
    · rw [if_pos hf] at h; cases h
    · exact ⟨hv, by omega⟩
  · rw [if_neg hv] at h; exact absurd h hv
/-- The curve of the greatest numbers of bytes. -/
theorem lstcall14 {w : World} {bv : Nat} {a : Option Addr} {n cap : Nat} {l : List Pk} (hok : ∀ q ∈ l, okP q = true) (has : Asc l) (hl60 : l.length ≤ 60) (hv : w.cell? ⟨bv, 0, none⟩ = some (.slice a n cap)) (h : PkR w a n cap l) (st : Int) (hst : st = (lstS l : Int)) :
    Calls Try.prog 109 #[.int .i64 st, .int .i64 1, .func (.func 110) #[] #[.pointer (some ⟨bv, 0, none⟩)]] w (GivesForm (lstF l) w) := by
  obtain ⟨s, hs⟩ : ∃ s : Nat, (s : Int) = max (lstS l : Int) 1 := ⟨max (lstS l) 1, by omega⟩
  have h1 := lstS_le hok
  exact fromZero14 110 _ (fun t => busy l t) (lstF l) st (by omega) s (fun t _ => rfl) (by omega) 0 (by omega) (fun t _ => by have := lst_bd hok hl60 t; omega) (lst_per hok has hs) w (enters_of Try.func110 (by kernel_rfl) rfl) (least1w hok has hl60 hv h _ (by omega))

/-- What Least hands back. -/
def GivesLst (l : List Pk) (fl c : Int) (w : World) (e : Ending) (w' : World) : Prop :=
  (c = 0 ∧ GivesForm (lstF (sel fl l)) w e w') ∨ (¬ c = 0 ∧ e = .returned (.tuple #[curV none 0 0 0 0, .int .i64 c]) ∧ Below w.heap.size w w')

set_option maxRecDepth 100000 in
set_option maxHeartbeats 3200000 in
theorem least14 (a : Option Addr) (n cap : Nat) (l : List Pk) (fl c : Int) (hc : fcode l fl = c) (w : World) (h : PkR w a n cap l) :
    Calls Try.prog 66 #[.slice a n cap, .int .i64 fl] w (GivesLst l fl c w) := by
  have hmf : ∀ (fn : Fn) (first cap : Array Value) (w : World), (Instr.makeFunc fn first cap).run Try.prog w = .ok (.func fn first cap) w := fun _ _ _ _ => rfl
  have hB0 : Below w.heap.size w (w.alloc (.cells #[.slice none 0 0, .int .i64 0, .int .i64 0] 26)) := (Below.refl _ _).alloc (Nat.le_refl _) _
  have HB0 := Lib.hid hB0
  have HC0 := Lib.hid (Cur3.new w (.slice none 0 0) (.int .i64 0) (.int .i64 0) 26)
  have HP := Lib.hid (h.under hB0)
  have HF := Lib.hid (fault14 a n cap l fl c hc _ (h.under hB0))
  have HCC := Lib.hid hc
  clear hB0 h hc
  go_enter Try.func66, Try.ntmps66
  go_wp2_with fail
  generalize w.alloc (.cells #[.slice none 0 0, .int .i64 0, .int .i64 0] 26) = W at HB0 HC0 HP HF ⊢
  refine HF.out.mono ?_
  rintro e w1 ⟨rfl, hb1⟩
  have HB1 := Lib.hid (HB0.out.trans (hb1.mono HB0.out.size))
  have HP1 := Lib.hid (HP.out.under hb1)
  have HC1 := Lib.hid (HC0.out.below hb1)
  clear hb1
  by_cases h0 : c = 0
  case neg =>
    have h0b : (c != 0) = true := by simpa using h0
    have HB2 := Lib.hid (below_set3 (b := w.heap.size) HB1.out (Nat.le_refl _) (.slice none 0 0) (.int .i64 0) (.int .i64 0))
    obtain ⟨c0, c1, c2, f0, f1, f2⟩ := HC1.out
    have H0 := Lib.hid h0
    clear h0
    go_wp2_with fail
    exact bodyPost_ret (v := .tuple #[curV none 0 0 0 0, .int .i64 c]) (by simp [results, Try.results66, go_sem, c0, c1, c2]) rfl (.inr ⟨H0.out, rfl, HB2.out⟩)
  subst h0
  obtain ⟨hv, hfl⟩ := fcode_ok HCC.out
  have HVO := Lib.hid (vcode_ok hv)
  clear hv hfl
  go_wp2_with fail
  refine (select13 a n cap l fl _ HP1.out).mono ?_
  rintro e w3 ⟨aO, m, capO, rfl, hb3, hpO, hxO⟩
  have hml := hpO.len
  have hm60 : m ≤ 60 := by rw [← hml]; exact Nat.le_trans (sel_le fl l) HVO.out.1
  have HOK := Lib.hid (show (∀ x ∈ sel fl l, okP x = true) ∧ Asc (sel fl l) from ⟨fun x hx => HVO.out.2.1 x (List.mem_filter.1 hx).1, HVO.out.2.2.filter _⟩)
  obtain ⟨own, hown⟩ : ∃ own, sel fl l = own := ⟨_, rfl⟩
  have HOWN := Lib.hid hown
  rw [hown] at hpO HOK hml
  have hsm := hpO.sm
  have hb4 : Below w.heap.size w (w3.alloc (.cells #[.slice aO m capO] 45)) := (HB1.out.trans (hb3.mono HB1.out.size)).alloc (Nat.le_trans HB1.out.size hb3.size) _
  have HB4 := Lib.hid hb4
  have HP4 := Lib.hid (hpO.under ((Below.refl _ w3).alloc (Nat.le_refl _) (.cells #[.slice aO m capO] 45)))
  have HC4 := Lib.hid ((HC1.out.below hb3).alloc (.cells #[.slice aO m capO] 45))
  have HL := Lib.hid hml
  have bx4 : (w3.alloc (.cells #[.slice aO m capO] 45)).cell? ⟨w3.heap.size, 0, none⟩ = some (.slice aO m capO) := cell_new13 rfl
  clear hb3 hxO hml hown hpO hb4
  cases m with
  | zero =>
    have HB5 := HB4
    have HP5 := HP4
    have HC5 := HC4
    have BX5 := Lib.hid bx4
    have HNE := Lib.hid (show (0 : Int) = (lstS own : Int) by rw [List.length_eq_zero_iff.1 HL.out]; rfl)
    go_wp2_with fail
    refine (lstcall14 HOK.out.1 HOK.out.2 (by rw [HL.out]; omega) BX5.out HP5.out _ (by first | exact HNE.out | (have := HNE.out; omega))).mono ?_
    rintro e w5 ⟨hb, ⟨a6, n6, cap6, zs, p, inc, rfl, hr, hf, hx⟩ | ⟨rfl, hno⟩⟩
    · have HPo := Lib.hid (form_post14 (b := w.heap.size) HB5.out (Nat.le_refl _) HC5.out.lt hb hr hx hf)
      obtain ⟨c0, c1, c2, f0, f1, f2⟩ := HC5.out.below hb
      clear hb hr hf hx
      go_wp2_with fail
      exact bodyPost_ret (v := .tuple #[curV a6 n6 cap6 p inc, .int .i64 0]) (by simp [results, Try.results66, go_sem, c0, c1, c2]) rfl (.inl ⟨rfl, by rw [HOWN.out]; exact HPo.out⟩)
    · have HPo := Lib.hid (none_post14 (b := w.heap.size) HB5.out (Nat.le_refl _) hb hno)
      obtain ⟨c0, c1, c2, f0, f1, f2⟩ := HC5.out.below hb
      clear hb hno
      go_wp2_with fail
      exact bodyPost_ret (v := .tuple #[curV none 0 0 0 0, .int .i64 3]) (by simp [results, Try.results66, go_sem, c0, c1, c2]) rfl (.inl ⟨rfl, by rw [HOWN.out]; exact HPo.out⟩)
  | succ j =>
    obtain ⟨Bo, off, ql, ha, hcs, hq, hbd⟩ := HP4.out.at (k := j) (by omega)
    subst ha
    obtain ⟨c0, c1, c2⟩ := hcs j ql hq
    have hz : own[0]? = some (own[0]'(by have := HL.out; omega)) := List.getElem?_eq_getElem _
    obtain ⟨q0, hq0⟩ : ∃ q0, own[0]'(by have := HL.out; omega) = q0 := ⟨_, rfl⟩
    rw [hq0] at hz
    obtain ⟨d0, d1, d2⟩ := hcs 0 q0 hz
    have o1 := (okP_iff _).1 (HOK.out.1 ql (List.mem_of_getElem? hq))
    have o2 := (okP_iff _).1 (HOK.out.1 q0 (List.mem_of_getElem? hz))
    have h12 := asc_pat HOK.out.2 (Nat.zero_le j) (by have := HL.out; omega)
    rw [pat_of hz, pat_of hq] at h12
    obtain ⟨x1, x2, x3, x4⟩ : 0 ≤ ql.t ∧ ql.t ≤ 2000 ∧ 0 ≤ q0.t ∧ q0.t ≤ 2000 := by omega
    have hlI : (0 : Int) < ((j + 1 : Nat) : Int) := by omega
    have hcast : ((j + 1 : Nat) : Int) - 1 = (j : Int) := by omega
    have hjI : (j : Int) < ((j + 1 : Nat) : Int) := by omega
    have hw1 : IntKind.i64.wrap (ql.t - q0.t) = ql.t - q0.t := IntWalk.i64_in _ ⟨by omega, by omega⟩
    have hw2 : IntKind.i64.wrap (ql.t - q0.t + 1) = ql.t - q0.t + 1 := IntWalk.i64_in _ ⟨by omega, by omega⟩
    have HST := Lib.hid (show ql.t - q0.t + 1 = (lstS own : Int) by
      unfold lstS
      rw [if_neg (by intro e; rw [e] at hz; cases hz), HL.out, Nat.add_sub_cancel, pat_of hq, pat_of hz]
      omega)
    clear hcs hq hbd hq0 hz o1 o2 h12 c0 c2 d0 d2
    go_wp2_with fail
    go_quiet (fail)
    have HB5 := Lib.hid (HB4.out.drewN nq)
    have HP5 := Lib.hid (HP4.out.under ((Below.refl _ _).drewN nq))
    have HC5 := Lib.hid (HC4.out.drewN nq)
    have BX5 := Lib.hid (show ((w3.alloc (.cells #[.slice (some ⟨Bo, off, none⟩) (j + 1) capO] 45)).drewN nq).cell? ⟨w3.heap.size, 0, none⟩ = some (.slice (some ⟨Bo, off, none⟩) (j + 1) capO) from bx4)
    go_wp2_with fail
    refine (lstcall14 HOK.out.1 HOK.out.2 (by rw [HL.out]; omega) BX5.out HP5.out _ (HST.out)).mono ?_
    rintro e w5 ⟨hb, ⟨a6, n6, cap6, zs, p, inc, rfl, hr, hf, hx⟩ | ⟨rfl, hno⟩⟩
    · have HPo := Lib.hid (form_post14 (b := w.heap.size) HB5.out (Nat.le_refl _) HC5.out.lt hb hr hx hf)
      obtain ⟨c0, c1, c2, f0, f1, f2⟩ := HC5.out.below hb
      clear hb hr hf hx
      go_wp2_with fail
      exact bodyPost_ret (v := .tuple #[curV a6 n6 cap6 p inc, .int .i64 0]) (by simp [results, Try.results66, go_sem, c0, c1, c2]) rfl (.inl ⟨rfl, by rw [HOWN.out]; exact HPo.out⟩)
    · have HPo := Lib.hid (none_post14 (b := w.heap.size) HB5.out (Nat.le_refl _) hb hno)
      obtain ⟨c0, c1, c2, f0, f1, f2⟩ := HC5.out.below hb
      clear hb hno
      go_wp2_with fail
      exact bodyPost_ret (v := .tuple #[curV none 0 0 0 0, .int .i64 3]) (by simp [results, Try.results66, go_sem, c0, c1, c2]) rfl (.inl ⟨rfl, by rw [HOWN.out]; exact HPo.out⟩)
end Go.Proofs.Ytknimlpdpgpliaa

namespace Go.Proofs.Ytknimlpdpgpliaa
open Go.RowKit
set_option linter.unusedSimpArgs false
set_option linter.unusedVariables false

theorem sum_drop {L : List Pk} (ho : ∀ q ∈ L, okP q = true) {f g : Nat} (h : f ≤ g) : sumG Pk.s (L.drop g) ≤ sumG Pk.s (L.drop f) := by
  have e : L.drop f = (L.drop f).take (g - f) ++ L.drop g := by
    have := List.take_append_drop (g - f) (L.drop f)
    rw [List.drop_drop, show f + (g - f) = g by omega] at this
    exact this.symm
  rw [e, sumG_append]
  have := sumG_mono (fun _ => 0) Pk.s ((L.drop f).take (g - f)) (fun q hq => by have := (okP_iff q).1 (ho q (List.mem_of_mem_drop (List.mem_of_mem_take hq))); omega)
  rw [sumG_zero] at this
  omega
theorem frs_anti {l : List Pk} {k k' : Int} (h : k ≤ k') (j : Nat) : frs l k' j ≤ frs l k j := cnt_mono14 (by omega)
theorem busy_mono {l : List Pk} (ho : ∀ q ∈ l, okP q = true) {k k' : Int} (h : k ≤ k') : busy l k ≤ busy l k' := by
  unfold busy
  generalize l.length = n
  induction n with
  | zero => exact Int.le_refl _
  | succ j ih =>
    have := sum_drop (L := l.take (j + 1)) (fun q hq => ho q (List.mem_of_mem_take hq)) (frs_anti (l := l) h j)
    show max (bzN l k j) (win l k j) ≤ max (bzN l k' j) (win l k' j)
    unfold win
    omega
theorem lst_mono {l : List Pk} (ho : ∀ q ∈ l, okP q = true) (hl : l.length ≤ 60) (t : Nat) : lstF l t ≤ lstF l (t + 1) := by
  unfold lstF
  rw [if_neg (show ¬ t + 1 = 0 by omega)]
  split
  · exact (bzN_bd ho hl _ _).1
  · exact busy_mono ho (by omega)
/-- With no more than 399 ticks it can be written. -/
theorem lst_can {l : List Pk} (ho : ∀ q ∈ l, okP q = true) (hl : l.length ≤ 60) (ha : Asc l) (hs : lstS l ≤ 399) : CanBe (lstF l) := by
  obtain ⟨s, hsm⟩ : ∃ s : Nat, (s : Int) = max (lstS l : Int) 1 := ⟨max (lstS l) 1, by omega⟩
  have hs1 : 1 ≤ s := by omega
  have hn := firsts_length (lstF l) (s + 1)
  have hg : ∀ i, i < s + 1 → (firsts (lstF l) (s + 1)).getD i 0 = lstF l i := fun i hi => firsts_getD _ _ _ hi
  have hlast : ¬ (firsts (lstF l) (s + 1)).getD ((firsts (lstF l) (s + 1)).length - 1) 0 = infV := by
    rw [hn, hg _ (by omega)]
    have := lst_bd ho hl (s + 1 - 1)
    intro e
    rw [e] at this
    have h2 := this.2
    unfold infV at h2
    omega
  refine ⟨firsts (lstF l) (s + 1), 1, 0, ⟨by omega, by omega, by omega, by omega, by omega, by omega, fun i hi => ?_, fun i hi => ?_, fun h => absurd h hlast, fun _ => ?_⟩, fun t => ?_⟩
  · rw [hg i (by omega)]
    have := lst_bd ho hl i
    exact .inl ⟨this.1, by omega⟩
  · rw [hg i (by omega), hg (i + 1) (by omega)]
    exact lst_mono ho hl i
  · omega
  · unfold atC
    by_cases h : t < (firsts (lstF l) (s + 1)).length
    · rw [if_pos h, hg t (by omega)]
    · rw [if_neg h, if_neg hlast, hn, Nat.div_one, Nat.mul_one, show t - (t - (s + 1) + 1) = s by omega, hg s (by omega), Int.mul_zero, Int.add_zero]
      unfold lstF
      rw [if_neg (by omega), if_neg (by omega), busy_all ho ha (by omega), busy_all ho ha (by omega)]
theorem lstS_small {l : List Pk} {m : Nat} (ht : ∀ q ∈ l, 0 ≤ q.t ∧ q.t ≤ (m : Int)) : lstS l ≤ m + 1 := by
  unfold lstS
  split
  · omega
  · rename_i h
    have hl : 0 < l.length := List.length_pos_iff.2 h
    have h1 := ht _ (List.getElem_mem (show l.length - 1 < l.length by omega))
    have h2 := ht _ (List.getElem_mem hl)
    rw [pat_of (List.getElem?_eq_getElem (show l.length - 1 < l.length by omega)), pat_of (List.getElem?_eq_getElem hl)]
    omega
end Go.Proofs.Ytknimlpdpgpliaa

namespace Go.Proofs.Ytknimlpdpgpliaa
open Go.RowKit
set_option linter.unusedSimpArgs false
set_option linter.unusedVariables false

theorem sumG_rev (g : Pk → Int) : ∀ l : List Pk, sumG g l.reverse = sumG g l
  | [] => rfl
  | x :: r => by rw [List.reverse_cons, sumG_append, sumG_rev g r]; simp [sumG]; omega
/-- What is kept, packet by packet. -/
theorem fit_iff (E : Nat → Int) (l : List Pk) : ∀ m, m ≤ l.length → (fitR E (l.take m).reverse = true ↔ ∀ j q, j < m → l[j]? = some q → ∀ i x, i ≤ j → l[i]? = some x → sumG Pk.s ((l.take (j + 1)).drop i) ≤ E (q.t + 1 - x.t).toNat)
  | 0, _ => by
    constructor
    · intro _ j q hj; omega
    · intro _; rfl
  | m + 1, hm => by
    have ih := fit_iff E l m (by omega)
    have hq : l[m]? = some (l[m]) := List.getElem?_eq_getElem (by omega)
    have hl : (l.take (m + 1)).length = m + 1 := by rw [List.length_take]; omega
    have key : (exc14 E (l.take m ++ [l[m]])).isNone = true ↔ ∀ i x, i ≤ m → l[i]? = some x → sumG Pk.s ((l.take (m + 1)).drop i) ≤ E ((l[m]).t + 1 - x.t).toNat := by
      have e : l.take m ++ [l[m]] = l.take (m + 1) := by rw [List.take_add_one, hq]; rfl
      have e2 : l[m] :: (l.take m).reverse = (l.take (m + 1)).reverse := by rw [← e, List.reverse_append]; rfl
      rw [exc14_snoc, e2, exB_none]
      have hs : ∀ i', i' < m + 1 → (l.take (m + 1)).reverse.take (i' + 1) = ((l.take (m + 1)).drop (m - i')).reverse := fun i' hi => by
        rw [List.take_reverse, hl, show m + 1 - (i' + 1) = m - i' by omega]
      constructor
      · intro h i x hi hx
        have := h (m - i) x (by rw [List.getElem?_reverse (by omega), hl, show m + 1 - 1 - (m - i) = i by omega, List.getElem?_take, if_pos (by omega)]; exact hx)
        rw [hs _ (by omega), sumG_rev, show m - (m - i) = i by omega] at this
        omega
      · intro h i' x hx
        have hi' : i' < m + 1 := by have := (List.getElem?_eq_some_iff.1 hx).1; rw [List.length_reverse, hl] at this; exact this
        rw [List.getElem?_reverse (by omega), hl, List.getElem?_take, if_pos (by omega), show m + 1 - 1 - i' = m - i' by omega] at hx
        have := h (m - i') x (by omega) hx
        rw [hs _ hi', sumG_rev]
        omega
    have e : l.take (m + 1) = l.take m ++ [l[m]] := by rw [List.take_add_one, hq]; rfl
    have e3 : fitR E (l.take (m + 1)).reverse = ((exc14 E (l.take m ++ [l[m]])).isNone && fitR E (l.take m).reverse) := by rw [e, fitR_snoc]
    rw [e3, Bool.and_eq_true, key, ih]
    constructor
    · rintro ⟨h1, h2⟩ j q hj hq' i x hi hx
      rcases Nat.lt_or_eq_of_le (Nat.le_of_lt_succ hj) with h | rfl
      · exact h2 j q h hq' i x hi hx
      · rw [hq] at hq'; cases hq'
        exact h1 i x hi hx
    · intro h
      exact ⟨fun i x hi hx => h m _ (by omega) hq i x hi hx, fun j q hj hq' i x hi hx => h j q (by omega) hq' i x hi hx⟩
theorem fit_all (E : Nat → Int) (l : List Pk) : fitR E l.reverse = true ↔ ∀ j q, l[j]? = some q → ∀ i x, i ≤ j → l[i]? = some x → sumG Pk.s ((l.take (j + 1)).drop i) ≤ E (q.t + 1 - x.t).toNat := by
  have := fit_iff E l l.length (Nat.le_refl _)
  rw [List.take_length] at this
  rw [this]
  exact ⟨fun h j q hq => h j q (List.getElem?_eq_some_iff.1 hq).1 hq, fun h j q _ hq => h j q hq⟩

theorem bzN_ge (l : List Pk) (k : Int) : ∀ n j, j < n → win l k j ≤ bzN l k n
  | n + 1, j, h => by
    show _ ≤ max (bzN l k n) (win l k n)
    rcases Nat.lt_or_eq_of_le (Nat.le_of_lt_succ h) with h | rfl
    · have := bzN_ge l k n j h; omega
    · omega
theorem win_busy {l : List Pk} {k : Int} {j : Nat} (h : j < l.length) : win l k j ≤ busy l k := bzN_ge l k _ j h
/-- The packets from i to j lie within so many ticks. -/
theorem win_from {l : List Pk} (ho : ∀ q ∈ l, okP q = true) (ha : Asc l) {i j : Nat} {q x : Pk} (hij : i ≤ j) (hq : l[j]? = some q) (hx : l[i]? = some x) {k : Int} (hk : q.t + 1 - x.t ≤ k) : sumG Pk.s ((l.take (j + 1)).drop i) ≤ busy l k := by
  have hj := (List.getElem?_eq_some_iff.1 hq).1
  have hf : frs l k j ≤ i := by
    have := frs_iff ha (k := k) (j := j) hx
    rw [pat_of hq] at this
    omega
  exact Int.le_trans (sum_drop (L := l.take (j + 1)) (fun y hy => ho y (List.mem_of_mem_take hy)) hf) (win_busy hj)
theorem lst_pos {l : List Pk} {k : Int} (hk : 1 ≤ k) : lstF l k.toNat = busy l k := by
  unfold lstF
  rw [if_neg (by omega), Int.toNat_of_nonneg (by omega)]
end Go.Proofs.Ytknimlpdpgpliaa

namespace Go.Proofs.Ytknimlpdpgpliaa
open Go.RowKit
set_option linter.unusedSimpArgs false
set_option linter.unusedVariables false

theorem sum_three : ∀ L : List Pk, (∀ q ∈ L, 0 ≤ q.f ∧ q.f < 3) → sumG Pk.s L = sumG Pk.s (sel 0 L) + sumG Pk.s (sel 1 L) + sumG Pk.s (sel 2 L)
  | [], _ => rfl
  | x :: r, h => by
    have ih := sum_three r (fun q hq => h q (List.mem_cons_of_mem _ hq))
    have hx := h x (List.mem_cons_self ..)
    have e : ∀ fl : Int, 0 ≤ fl → sumG Pk.s (sel fl (x :: r)) = (if x.f = fl then x.s else 0) + sumG Pk.s (sel fl r) := fun fl hf => by
      rw [sel_cons, ofFlow_nn (by omega)]
      by_cases c : x.f = fl
      · rw [decide_eq_true (.inr c), if_pos rfl, if_pos c]; rfl
      · rw [decide_eq_false (by omega), if_neg (by decide), if_neg c, Int.zero_add]
    rw [e 0 (by omega), e 1 (by omega), e 2 (by omega)]
    show x.s + sumG Pk.s r = _
    rw [ih]
    rcases (show x.f = 0 ∨ x.f = 1 ∨ x.f = 2 by omega) with c | c | c
    all_goals
      rw [c]
      simp
      omega
/-- What a flow has in a part of a trace is no more than its busiest ticks have. -/
theorem win_sel {l : List Pk} (ho : ∀ q ∈ l, okP q = true) (hl : l.length ≤ 60) (ha : Asc l) (fl : Int) {i j : Nat} {q x : Pk} (hij : i ≤ j) (hq : l[j]? = some q) (hx : l[i]? = some x) {k : Int} (hk : q.t + 1 - x.t ≤ k) : sumG Pk.s (sel fl ((l.take (j + 1)).drop i)) ≤ busy (sel fl l) k := by
  obtain ⟨A, hA⟩ : ∃ A, sel fl (l.take i) = A := ⟨_, rfl⟩
  obtain ⟨M, hM⟩ : ∃ M, sel fl ((l.take (j + 1)).drop i) = M := ⟨_, rfl⟩
  obtain ⟨B, hB⟩ : ∃ B, sel fl (l.drop (j + 1)) = B := ⟨_, rfl⟩
  have hj := (List.getElem?_eq_some_iff.1 hq).1
  have e : sel fl l = A ++ M ++ B := by
    have e1 : l = l.take i ++ (l.take (j + 1)).drop i ++ l.drop (j + 1) := by
      have e2 : l.take i ++ (l.take (j + 1)).drop i = l.take (j + 1) := by
        have := List.take_append_drop i (l.take (j + 1))
        rwa [List.take_take, Nat.min_eq_left (by omega)] at this
      rw [e2, List.take_append_drop]
    rw [← hA, ← hM, ← hB]
    unfold sel
    rw [← List.filter_append, ← List.filter_append, ← e1]
  have hoo : ∀ y ∈ sel fl l, okP y = true := fun y hy => ho y (List.mem_filter.1 hy).1
  have hl2 : (sel fl l).length ≤ 60 := Nat.le_trans (sel_le fl l) hl
  have haa : Asc (sel fl l) := ha.filter _
  rw [hM]
  rcases Nat.eq_zero_or_pos M.length with h0 | h0
  · rw [List.length_eq_zero_iff.1 h0]
    exact (bzN_bd hoo hl2 k _).1
  · have hlen : (sel fl l).length = A.length + M.length + B.length := by rw [e, List.length_append, List.length_append]
    have ht : ∀ y ∈ M, x.t ≤ y.t ∧ y.t ≤ q.t := fun y hy => by
      rw [← hM] at hy
      obtain ⟨m, hm, hmy⟩ := List.getElem_of_mem (List.mem_filter.1 hy).1
      rw [List.length_drop, List.length_take] at hm
      have hmy2 : l[i + m]? = some y := by
        have : ((l.take (j + 1)).drop i)[m]? = some y := by rw [List.getElem?_eq_getElem (by rw [List.length_drop, List.length_take]; exact hm)]; rw [hmy]
        rw [List.getElem?_drop, List.getElem?_take, if_pos (by omega)] at this
        exact this
      have a1 := asc_pat ha (show i ≤ i + m by omega) (by omega)
      have a2 := asc_pat ha (show i + m ≤ j by omega) hj
      rw [pat_of hx, pat_of hmy2] at a1
      rw [pat_of hmy2, pat_of hq] at a2
      exact ⟨a1, a2⟩
    have g1 : (sel fl l)[A.length]? = some (M[0]'h0) := by
      rw [e, List.getElem?_append_left (by rw [List.length_append]; omega), List.getElem?_append_right (Nat.le_refl _), Nat.sub_self]
      exact List.getElem?_eq_getElem h0
    have g2 : (sel fl l)[A.length + M.length - 1]? = some (M[M.length - 1]'(by omega)) := by
      rw [e, List.getElem?_append_left (by rw [List.length_append]; omega), List.getElem?_append_right (by omega), show A.length + M.length - 1 - A.length = M.length - 1 by omega]
      exact List.getElem?_eq_getElem (by omega)
    have h1 := (ht _ (List.getElem_mem h0)).1
    have h2 := (ht _ (List.getElem_mem (show M.length - 1 < M.length by omega))).2
    have := win_from hoo haa (show A.length ≤ A.length + M.length - 1 by omega) g2 g1 (k := k) (by omega)
    rw [show A.length + M.length - 1 + 1 = (A ++ M).length by rw [List.length_append]; omega, e, List.take_left, List.drop_left] at this
    rwa [← e] at this
/-- The sum of the least curves of the first flows. -/
def smF (l : List Pk) : Nat → Nat → Int
  | 0, _ => 0
  | k + 1, t => smF l k t + lstF (sel (k : Int) l) t
theorem sel_all (l : List Pk) : sel (-1) l = l := by
  unfold sel
  rw [List.filter_eq_self]
  intro q _
  rw [ofFlow_nn (by omega)]
  exact decide_eq_true (.inl rfl)
/-- All packets keep the sum of three flows. -/
theorem sum_kept {l : List Pk} (ho : ∀ q ∈ l, okP q = true) (hl : l.length ≤ 60) (ha : Asc l) (hf : ∀ q ∈ l, 0 ≤ q.f ∧ q.f < 3) : kpB (smF l 3) (-1) l = true := by
  unfold kpB
  rw [sel_all, fit_all]
  intro j q hq i x hij hx
  have h := asc_pat ha hij (List.getElem?_eq_some_iff.1 hq).1
  rw [pat_of hq, pat_of hx] at h
  rw [sum_three _ (fun y hy => hf y (List.mem_of_mem_take (List.mem_of_mem_drop hy)))]
  have h0 := win_sel ho hl ha 0 hij hq hx (Int.le_refl _)
  have h1 := win_sel ho hl ha 1 hij hq hx (Int.le_refl _)
  have h2 := win_sel ho hl ha 2 hij hq hx (Int.le_refl _)
  show _ ≤ 0 + lstF (sel ((0 : Nat) : Int) l) _ + lstF (sel ((1 : Nat) : Int) l) _ + lstF (sel ((2 : Nat) : Int) l) _
  rw [lst_pos (by omega), lst_pos (by omega), lst_pos (by omega)]
  have e0 : ((0 : Nat) : Int) = 0 := rfl
  have e1 : ((1 : Nat) : Int) = 1 := rfl
  have e2 : ((2 : Nat) : Int) = 2 := rfl
  rw [e0, e1, e2]
  omega
/-- What grows up to a tick, and then stays, can be written. -/
theorem can_of {F : Nat → Int} {s : Nat} (hs1 : 1 ≤ s) (hs : s ≤ 399) (hm : ∀ t, F t ≤ F (t + 1)) (hb : ∀ t, 0 ≤ F t ∧ F t ≤ 1073741824) (hc : ∀ t, s ≤ t → F t = F s) : CanBe F := by
  have hn := firsts_length F (s + 1)
  have hg : ∀ i, i < s + 1 → (firsts F (s + 1)).getD i 0 = F i := fun i hi => firsts_getD _ _ _ hi
  have hlast : ¬ (firsts F (s + 1)).getD ((firsts F (s + 1)).length - 1) 0 = infV := by
    rw [hn, hg _ (by omega)]
    have := hb (s + 1 - 1)
    intro e
    rw [e] at this
    have h2 := this.2
    unfold infV at h2
    omega
  refine ⟨firsts F (s + 1), 1, 0, ⟨by omega, by omega, by omega, by omega, by omega, by omega, fun i hi => ?_, fun i hi => ?_, fun h => absurd h hlast, fun _ => ?_⟩, fun t => ?_⟩
  · rw [hg i (by omega)]; exact .inl (hb i)
  · rw [hg i (by omega), hg (i + 1) (by omega)]; exact hm i
  · omega
  · unfold atC
    by_cases h : t < (firsts F (s + 1)).length
    · rw [if_pos h, hg t (by omega)]
    · rw [if_neg h, if_neg hlast, hn, Nat.div_one, Nat.mul_one, show t - (t - (s + 1) + 1) = s by omega, hg s (by omega), Int.mul_zero, Int.add_zero]
      exact (hc t (by omega)).symm
theorem smF_facts {l : List Pk} (ho : ∀ q ∈ l, okP q = true) (hl : l.length ≤ 60) (ha : Asc l) {m : Nat} (ht : ∀ q ∈ l, 0 ≤ q.t ∧ q.t ≤ (m : Int)) : ∀ k, (∀ t, smF l k t ≤ smF l k (t + 1)) ∧ (∀ t, 0 ≤ smF l k t ∧ smF l k t ≤ 90000 * (k : Int)) ∧ (∀ t, m + 1 ≤ t → smF l k t = smF l k (m + 1))
  | 0 => ⟨fun _ => Int.le_refl _, fun _ => ⟨Int.le_refl _, by show (0 : Int) ≤ _; omega⟩, fun _ _ => rfl⟩
  | k + 1 => by
    obtain ⟨h1, h2, h3⟩ := smF_facts ho hl ha ht k
    have hoo : ∀ y ∈ sel (k : Int) l, okP y = true := fun y hy => ho y (List.mem_filter.1 hy).1
    have hl2 : (sel (k : Int) l).length ≤ 60 := Nat.le_trans (sel_le _ l) hl
    have haa : Asc (sel (k : Int) l) := ha.filter _
    have hS := lstS_small (l := sel (k : Int) l) (m := m) (fun q hq => ht q (List.mem_filter.1 hq).1)
    have hcon : ∀ t, m + 1 ≤ t → lstF (sel (k : Int) l) t = sumG Pk.s (sel (k : Int) l) := fun t ht => by
      unfold lstF
      rw [if_neg (by omega), busy_all hoo haa (by omega)]
    refine ⟨fun t => ?_, fun t => ?_, fun t ht => ?_⟩
    · have := h1 t
      have := lst_mono hoo hl2 t
      show smF l k t + _ ≤ smF l k (t + 1) + _
      omega
    · have := h2 t
      have := lst_bd hoo hl2 t
      show 0 ≤ smF l k t + _ ∧ smF l k t + _ ≤ _
      omega
    · show smF l k t + _ = smF l k (m + 1) + _
      rw [h3 t ht, hcon t ht, hcon (m + 1) (Nat.le_refl _)]
end Go.Proofs.Ytknimlpdpgpliaa
