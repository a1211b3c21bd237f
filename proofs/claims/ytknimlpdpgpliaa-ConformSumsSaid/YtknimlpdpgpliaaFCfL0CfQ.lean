/- The mathematics of Least: the greatest number of bytes in so many ticks in a row. Nothing here speaks of the program. By the verifier's side. -/
import Derived.Test.YtknimlpdpgpliaaFCfGCfT
import Derived.Test.YtknimlpdpgpliaaFTrA
import Derived.Test.YtknimlpdpgpliaaFCfC
namespace Go.Proofs.Ytknimlpdpgpliaa
set_option linter.unusedSimpArgs false
set_option linter.unusedVariables false
/-- A packet at a place. -/
def pat (l : List Pk) (j : Nat) : Pk := l.getD j ⟨0, 0, 0⟩
theorem pat_of {l : List Pk} {j : Nat} {q : Pk} (h : l[j]? = some q) : pat l j = q := by unfold pat; rw [List.getD_eq_getElem?_getD, h]; rfl
/-- How many lie ahead of the k ticks that end with the packet j. -/
def frs (l : List Pk) (k : Int) (j : Nat) : Nat := cnt ((pat l j).t - k + 1) l
/-- What comes in these ticks, up to the packet j. -/
def win (l : List Pk) (k : Int) (j : Nat) : Int := sumG Pk.s ((l.take (j + 1)).drop (frs l k j))
/-- The greatest one of the first packets. -/
def bzN (l : List Pk) (k : Int) : Nat → Int
  | 0 => 0
  | j + 1 => max (bzN l k j) (win l k j)
def busy (l : List Pk) (k : Int) : Int := bzN l k l.length
theorem cnt_mono14 {l : List Pk} {t u : Int} (h : t ≤ u) : cnt t l ≤ cnt u l := by
  unfold cnt
  induction l with
  | nil => simp
  | cons x r ih =>
    rw [List.filter_cons, List.filter_cons]
    by_cases c : x.t < t
    · rw [if_pos (by simpa using c), if_pos (by simp; omega)]
      simp only [List.length_cons]; omega
    · rw [if_neg (by simpa using c)]
      split
      · simp only [List.length_cons]; omega
      · exact ih
theorem frs_step {l : List Pk} (ha : Asc l) {k : Int} {j : Nat} (h : j + 1 < l.length) : frs l k j ≤ frs l k (j + 1) := by
  unfold frs
  refine cnt_mono14 ?_
  have h1 : l[j]? = some (l[j]) := List.getElem?_eq_getElem (by omega)
  have h2 : l[j + 1]? = some (l[j + 1]) := List.getElem?_eq_getElem h
  rw [pat_of h1, pat_of h2]
  have := (List.pairwise_iff_getElem.1 ha) j (j + 1) (by omega) h (by omega)
  omega
theorem frs_le {l : List Pk} (ha : Asc l) {k : Int} (hk : 1 ≤ k) {j : Nat} (h : j < l.length) : frs l k j ≤ j := by
  have h1 : l[j]? = some (l[j]) := List.getElem?_eq_getElem h
  unfold frs
  rw [pat_of h1]
  rcases Nat.lt_or_ge j (cnt ((l[j]).t - k + 1) l) with hlt | hge
  · have := (cnt_asc ha (t := (l[j]).t - k + 1) h1).2 hlt
    omega
  · exact hge
/-- The packet at f is ahead of the ticks exactly if f is one of the first. -/
theorem frs_iff {l : List Pk} (ha : Asc l) {k : Int} {j f : Nat} {q : Pk} (hq : l[f]? = some q) : q.t ≤ (pat l j).t - k ↔ f < frs l k j := by
  unfold frs
  have := cnt_asc ha (t := (pat l j).t - k + 1) hq
  omega
theorem win_take {l : List Pk} {f j : Nat} {q : Pk} (hf : f ≤ j) (hq : l[j]? = some q) : sumG Pk.s ((l.take (j + 1)).drop f) = sumG Pk.s ((l.take j).drop f) + q.s := by
  have hj := (List.getElem?_eq_some_iff.1 hq).1
  rw [List.take_add_one, hq, List.drop_append_of_le_length (by rw [List.length_take]; omega), sumG_append]
  simp [sumG]
theorem win_drop {l : List Pk} {f j : Nat} {q : Pk} (hf : f ≤ j) (hq : l[f]? = some q) : sumG Pk.s ((l.take (j + 1)).drop f) = q.s + sumG Pk.s ((l.take (j + 1)).drop (f + 1)) := by
  have hh : (l.take (j + 1))[f]? = some q := by rw [List.getElem?_take, if_pos (by omega)]; exact hq
  rw [drop_at hh]; rfl
theorem sum_part {l : List Pk} (ho : ∀ q ∈ l, okP q = true) (hl : l.length ≤ 60) (i f : Nat) : 0 ≤ sumG Pk.s ((l.take i).drop f) ∧ sumG Pk.s ((l.take i).drop f) ≤ 90000 := by
  have hm : ∀ q ∈ (l.take i).drop f, okP q = true := fun q hq => ho q (List.mem_of_mem_take (List.mem_of_mem_drop hq))
  constructor
  · have := sumG_mono (fun _ => 0) Pk.s ((l.take i).drop f) (fun q hq => by have := (okP_iff q).1 (hm q hq); omega)
    rw [sumG_zero] at this; exact this
  · have h1 := sumG_bound Pk.s 1500 ((l.take i).drop f) (fun q hq => by have := (okP_iff q).1 (hm q hq); omega)
    have h2 : ((l.take i).drop f).length ≤ 60 := by rw [List.length_drop, List.length_take]; omega
    omega
theorem bzN_bd {l : List Pk} (ho : ∀ q ∈ l, okP q = true) (hl : l.length ≤ 60) (k : Int) : ∀ j, 0 ≤ bzN l k j ∧ bzN l k j ≤ 90000
  | 0 => ⟨Int.le_refl _, by show (0 : Int) ≤ 90000; omega⟩
  | j + 1 => by
    have h1 := bzN_bd ho hl k j
    have h2 := sum_part ho hl (j + 1) (frs l k j)
    show 0 ≤ max (bzN l k j) (win l k j) ∧ max (bzN l k j) (win l k j) ≤ 90000
    unfold win
    omega
/-! ## The least curve -/

/-- Its values: 0 at the tick 0. -/
def lstF (l : List Pk) (k : Nat) : Int := if k = 0 then 0 else busy l k
/-- The ticks in which all arrives. -/
def lstS (l : List Pk) : Nat := if l = [] then 0 else ((pat l (l.length - 1)).t - (pat l 0).t + 1).toNat
end Go.Proofs.Ytknimlpdpgpliaa

namespace Go.Proofs.Ytknimlpdpgpliaa
open Go.RowKit Go.Shelf
set_option linter.unusedSimpArgs false
set_option linter.unusedVariables false
attribute [local go_sem] Oper.semAt_some

/-- The first one of the ticks that end with the packet ahead of k. -/
def frP (l : List Pk) (K : Int) (k : Nat) : Nat := if k = 0 then 0 else frs l K (k - 1)
theorem frP_le {l : List Pk} (ha : Asc l) {K : Int} (hK : 1 ≤ K) {k : Nat} (h : k ≤ l.length) : frP l K k ≤ k := by
  unfold frP
  split
  · omega
  · have := frs_le ha hK (j := k - 1) (by omega)
    omega
theorem frP_step {l : List Pk} (ha : Asc l) {K : Int} {k : Nat} (h : k < l.length) : frP l K k ≤ frs l K k := by
  unfold frP
  split
  · omega
  · have := frs_step ha (k := K) (j := k - 1) (by omega)
    rwa [show k - 1 + 1 = k by omega] at this

set_option maxRecDepth 100000 in
set_option maxHeartbeats 3200000 in
theorem busiest14 (a : Option Addr) (n cap : Nat) (l : List Pk) (K : Int) (hK1 : 1 ≤ K) (hK2 : K ≤ 4000) (hok : ∀ q ∈ l, okP q = true) (has : Asc l) (hl60 : l.length ≤ 60) (w : World) (h : PkR w a n cap l) :
    Calls Try.prog 111 #[.slice a n cap, .int .i64 K] w (fun e w' => e = .returned (.int .i64 (busy l K)) ∧ Below w.heap.size w w') := by
  have hsm := h.sm
  have hnl := h.len
  have HP := Lib.hid h
  have HO := Lib.hid (And.intro hok (And.intro has hl60))
  have hn60 : n ≤ 60 := by omega
  have HNL := Lib.hid hnl
  clear h hok has hl60 hnl
  go_enter Try.func111, Try.ntmps111
  go_wp2_with fail
  go_loopw [12, 5, 6, 7] (fun s12 s5 s6 s7 wx => ∃ k : Nat, s12 = .int .i64 k ∧ k ≤ n ∧ Hid (s5 = .int .i64 (bzN l K k)) ∧ Hid (s6 = .int .i64 (sumG Pk.s ((l.take k).drop (frP l K k)))) ∧ Hid (s7 = .int .i64 ((frP l K k : Nat) : Int)) ∧ Hid (Below w.heap.size w wx)) (fun s12 _ _ _ _ => n - (intOf s12).toNat)
  case atStart => exact ⟨0, by go_num, Nat.zero_le _, Lib.hid rfl, Lib.hid rfl, Lib.hid rfl, Lib.hid (Below.refl _ _)⟩
  case round =>
    obtain ⟨k, rfl, hk, h5, h6, h7, HB⟩ := hrel
    obtain ⟨wk, rfl⟩ : ∃ u : World, u = wr := ⟨_, rfl⟩
    have e5 := h5.out
    have e6 := h6.out
    have e7 := h7.out
    clear h5 h6 h7
    subst e5 e6 e7
    by_cases hlt : k < n
    · have hlI : (k : Int) < (n : Int) := by omega
      obtain ⟨Bk, off, q, ha, hcs, hq, hbd⟩ := (HP.out.under HB.out).at hlt
      obtain ⟨c0, c1, c2⟩ := hcs k q hq
      have hqok := (okP_iff q).1 (HO.out.1 q (List.mem_of_getElem? hq))
      obtain ⟨q1, q2, q3, q4⟩ : 0 ≤ q.t ∧ q.t ≤ 2000 ∧ 1 ≤ q.s ∧ q.s ≤ 1500 := by omega
      have hklen : k < l.length := by have := HNL.out; omega
      have HQ := Lib.hid (And.intro hq hklen)
      have hf0 := frP_le HO.out.2.1 hK1 (Nat.le_of_lt hklen)
      have hF := frs_le HO.out.2.1 hK1 hklen
      have hF0 := frP_step HO.out.2.1 (K := K) hklen
      obtain ⟨s1, s2⟩ := sum_part HO.out.1 HO.out.2.2 k (frP l K k)
      have ex := win_take (f := frP l K k) hf0 hq
      obtain ⟨x1, x2⟩ := sum_part HO.out.1 HO.out.2.2 (k + 1) (frP l K k)
      have hsum : IntKind.i64.wrap (sumG Pk.s ((l.take k).drop (frP l K k)) + q.s) = sumG Pk.s ((l.take (k + 1)).drop (frP l K k)) := by rw [← ex]; exact IntWalk.i64_in _ ⟨by omega, by omega⟩
      have hqk : IntKind.i64.wrap (q.t - K) = q.t - K := IntWalk.i64_in _ ⟨by omega, by omega⟩
      have bxu : PkBox (wk.alloc (.cells #[.int .i64 q.f, .int .i64 q.t, .int .i64 q.s] 76)) wk.heap.size q := PkBox.new wk q
      have hwu : Below w.heap.size w (wk.alloc (.cells #[.int .i64 q.f, .int .i64 q.t, .int .i64 q.s] 76)) := HB.out.trans ((Below.refl _ _).alloc HB.out.size _)
      have HU := Lib.hid (And.intro bxu hwu)
      have EX := Lib.hid ex
      clear hcs hq hbd hqok bxu hwu ex
      subst ha
      go_wp2_with fail
      obtain ⟨WK, hWK⟩ : ∃ WK, wk.alloc (.cells #[.int .i64 q.f, .int .i64 q.t, .int .i64 q.s] 76) = WK := ⟨_, rfl⟩
      obtain ⟨Bx, hBx⟩ : ∃ Bx, wk.heap.size = Bx := ⟨_, rfl⟩
      rw [hWK] at HU ⊢
      rw [hBx] at HU ⊢
      clear hWK hBx c0 c1 c2
      go_loopw [6, 7] (fun s6 s7 wx => ∃ f m : Nat, s7 = .int .i64 f ∧ f ≤ frs l K k ∧ Hid (s6 = .int .i64 (sumG Pk.s ((l.take (k + 1)).drop f))) ∧ wx = WK.drewN m ∧ Hid (frP l K k ≤ f)) (fun _ s7 _ => frs l K k - (intOf s7).toNat)
      case atStart => exact ⟨frP l K k, 0, by go_num, hF0, Lib.hid rfl, rfl, Lib.hid (Nat.le_refl _)⟩
      case round =>
        obtain ⟨f, m, rfl, hf, h6, rfl, hff⟩ := hrel
        have e6 := h6.out
        clear h6
        subst e6
        have hfn : f < n := by omega
        have hfI : (f : Int) < (n : Int) := by omega
        obtain ⟨B', off', r, ha', hcs', hr, hbd'⟩ := (HP.out.under HU.out.2).at hfn
        cases ha'
        obtain ⟨d0, d1, d2⟩ := hcs' f r hr
        have hrok := (okP_iff r).1 (HO.out.1 r (List.mem_of_getElem? hr))
        obtain ⟨r1, r2, r3, r4⟩ : 0 ≤ r.t ∧ r.t ≤ 2000 ∧ 1 ≤ r.s ∧ r.s ≤ 1500 := by omega
        have hiff := frs_iff HO.out.2.1 (k := K) (j := k) hr
        rw [pat_of HQ.out.1] at hiff
        obtain ⟨y0, y1, y2⟩ := HU.out.1.cells
        clear hcs' hbd' hrok y0 y2
        by_cases hc : r.t ≤ q.t - K
        · have hlt2 : f < frs l K k := hiff.1 hc
          have hwd := win_drop (f := f) (j := k) (by omega) hr
          obtain ⟨y5, y6⟩ := sum_part HO.out.1 HO.out.2.2 (k + 1) (f + 1)
          have hsub : IntKind.i64.wrap (sumG Pk.s ((l.take (k + 1)).drop f) - r.s) = sumG Pk.s ((l.take (k + 1)).drop (f + 1)) := by rw [hwd]; rw [show r.s + sumG Pk.s ((l.take (k + 1)).drop (f + 1)) - r.s = sumG Pk.s ((l.take (k + 1)).drop (f + 1)) by omega]; exact IntWalk.i64_in _ ⟨by omega, by omega⟩
          have hf1 : IntKind.i64.wrap ((f : Int) + 1) = ((f + 1 : Nat) : Int) := by rw [show (f : Int) + 1 = ((f + 1 : Nat) : Int) by omega]; exact IntWalk.i64_in _ ⟨by omega, by omega⟩
          clear hwd y5 y6 hiff
          go_wp2_with fail
          go_quiet (fail)
          go_wp2_with fail
          go_roundw
          case rel => exact ⟨f + 1, m + nq, by go_num, by omega, Lib.hid rfl, by first | rfl | rw [World.drewN_drewN], Lib.hid (by have := hff.out; omega)⟩
          case measure => first | (simp [intOf]; done) | (simp [intOf]; omega)
        · have HFE := Lib.hid (show f = frs l K k by
            have : ¬ f < frs l K k := fun h => hc (hiff.2 h)
            omega)
          clear hiff hf
          go_wp2_with fail
          go_quiet (fail)
          go_wp2_with fail
          go_roundw
          case rel =>
            have hfe := HFE.out
            have hfp : frP l K (k + 1) = f := by unfold frP; rw [if_neg (by omega), Nat.add_sub_cancel]; exact hfe.symm
            refine ⟨k + 1, by go_num, by omega, Lib.hid ?_, Lib.hid (by rw [hfp]), Lib.hid (by rw [hfp]), Lib.hid (HU.out.2.drewN _)⟩
            congr 1
            show _ = max (bzN l K k) (win l K k)
            unfold win
            rw [← hfe]
            rw [Int.max_def]
            split <;> split <;> omega
          case measure => first | (simp [intOf]; done) | (simp [intOf]; omega)
    · obtain rfl : k = n := by omega
      have hlI : ¬ (k : Int) < (k : Int) := by omega
      go_wp2_with fail
      go_ret
      exact ⟨by unfold busy; rw [HNL.out]; rfl, HB.out⟩
end Go.Proofs.Ytknimlpdpgpliaa
