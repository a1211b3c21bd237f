/- The mathematics of Greedy: what it sends, and that no other trace of packets of its size has more. Nothing here speaks of the program. By the verifier's side. -/
import Derived.Test.YtknimlpdpgpliaaDCfMCfN
namespace Go.Proofs.Ytknimlpdpgpliaa
set_option linter.unusedSimpArgs false
set_option linter.unusedVariables false

/-- In one tick: as many as may go, at most k. -/
def gIn (E : Nat → Int) (fl t c : Int) : Nat → List Pk → List Pk
  | 0, acc => acc
  | k + 1, acc => if (exB E (t + 1) 0 ((⟨fl, t, c⟩ : Pk) :: acc)).isNone = true then gIn E fl t c k (⟨fl, t, c⟩ :: acc) else acc
/-- After so many ticks, the last one first. -/
def gUp (E : Nat → Int) (fl c : Int) : Nat → List Pk
  | 0 => []
  | n + 1 => gIn E fl n c (60 - (gUp E fl c n).length) (gUp E fl c n)

theorem gIn_ind {E : Nat → Int} {fl t c : Int} (R : List Pk → Prop) (hR : ∀ acc, R acc → (exB E (t + 1) 0 ((⟨fl, t, c⟩ : Pk) :: acc)).isNone = true → R (⟨fl, t, c⟩ :: acc)) : ∀ (k : Nat) (acc : List Pk), R acc → R (gIn E fl t c k acc)
  | 0, acc, h => h
  | k + 1, acc, h => by
    unfold gIn
    split
    · rename_i d
      exact gIn_ind R hR k _ (hR acc h d)
    · exact h
theorem gIn_fit {E : Nat → Int} {fl t c : Int} (k : Nat) (acc : List Pk) (h : fitR E acc = true) : fitR E (gIn E fl t c k acc) = true :=
  gIn_ind (fun a => fitR E a = true) (fun a ha hd => by unfold fitR; rw [hd, ha]; rfl) k acc h
theorem gUp_fit (E : Nat → Int) (fl c : Int) : ∀ n, fitR E (gUp E fl c n) = true
  | 0 => rfl
  | n + 1 => gIn_fit _ _ (gUp_fit E fl c n)
theorem gIn_len {E : Nat → Int} {fl t c : Int} : ∀ (k : Nat) (acc : List Pk), (gIn E fl t c k acc).length ≤ acc.length + k
  | 0, acc => Nat.le_refl _
  | k + 1, acc => by
    unfold gIn
    split
    · have := gIn_len (E := E) (fl := fl) (t := t) (c := c) k (⟨fl, t, c⟩ :: acc)
      simp only [List.length_cons] at this; omega
    · omega
theorem gUp_len (E : Nat → Int) (fl c : Int) : ∀ n, (gUp E fl c n).length ≤ 60
  | 0 => by show 0 ≤ 60; omega
  | n + 1 => by
    have h1 := gUp_len E fl c n
    have h2 := gIn_len (E := E) (fl := fl) (t := n) (c := c) (60 - (gUp E fl c n).length) (gUp E fl c n)
    show (gIn E fl n c (60 - (gUp E fl c n).length) (gUp E fl c n)).length ≤ 60
    omega
/-- It ends where nothing more may go, or where there are 60. -/
theorem gIn_end {E : Nat → Int} {fl t c : Int} : ∀ (k : Nat) (acc : List Pk), (gIn E fl t c k acc).length < acc.length + k → (exB E (t + 1) 0 ((⟨fl, t, c⟩ : Pk) :: gIn E fl t c k acc)).isNone = false
  | 0, acc, h => by simp [gIn] at h
  | k + 1, acc, h => by
    unfold gIn at h ⊢
    split
    · rename_i d
      rw [if_pos d] at h
      exact gIn_end k _ (by simp only [List.length_cons]; omega)
    · rename_i d
      exact Bool.eq_false_iff.2 d
theorem gUp_end {E : Nat → Int} {fl c : Int} {n : Nat} (h : (gUp E fl c (n + 1)).length < 60) : (exB E ((n : Int) + 1) 0 ((⟨fl, n, c⟩ : Pk) :: gUp E fl c (n + 1))).isNone = false := by
  have h1 := gUp_len E fl c n
  exact gIn_end _ _ (by show (gUp E fl c (n + 1)).length < _; omega)
/-- What is sent: packets of the flow and the size, none later than its tick. -/
structure Sent (fl c : Int) (n : Nat) (l : List Pk) : Prop where
  mem : ∀ q ∈ l, q.f = fl ∧ q.s = c ∧ 0 ≤ q.t ∧ q.t < n
  desc : l.Pairwise fun x y => y.t ≤ x.t
theorem gUp_sent (E : Nat → Int) (fl c : Int) : ∀ n, Sent fl c n (gUp E fl c n)
  | 0 => ⟨fun q h => (by cases h), List.Pairwise.nil⟩
  | n + 1 => by
    have ih := gUp_sent E fl c n
    refine gIn_ind (fun a => Sent fl c (n + 1) a) (fun a ha _ => ⟨fun q hq => ?_, List.pairwise_cons.2 ⟨fun y hy => ?_, ha.desc⟩⟩) _ _ ⟨fun q hq => ?_, ih.desc⟩
    · rcases List.mem_cons.1 hq with e | e
      · subst e; exact ⟨rfl, rfl, by show (0 : Int) ≤ n; omega, by show (n : Int) < ((n + 1 : Nat) : Int); omega⟩
      · exact ha.mem q e
    · have := ha.mem y hy
      show y.t ≤ (n : Int); omega
    · have := ih.mem q hq; exact ⟨this.1, this.2.1, this.2.2.1, by omega⟩
theorem gIn_suffix {E : Nat → Int} {fl t c : Int} : ∀ (k : Nat) (acc : List Pk), ∃ u, gIn E fl t c k acc = u ++ acc ∧ ∀ q ∈ u, q.t = t
  | 0, acc => ⟨[], rfl, fun q h => by cases h⟩
  | k + 1, acc => by
    unfold gIn
    split
    · obtain ⟨u, hu, ht⟩ := gIn_suffix (E := E) (fl := fl) (t := t) (c := c) k (⟨fl, t, c⟩ :: acc)
      refine ⟨u ++ [⟨fl, t, c⟩], by rw [hu]; simp, fun q hq => ?_⟩
      rcases List.mem_append.1 hq with e | e
      · exact ht q e
      · rw [List.mem_singleton.1 e]
    · exact ⟨[], rfl, fun q h => by cases h⟩
/-- Later ones come on top. -/
theorem gUp_suffix (E : Nat → Int) (fl c : Int) (n : Nat) : ∀ k, ∃ u, gUp E fl c (n + k) = u ++ gUp E fl c n ∧ ∀ q ∈ u, (n : Int) ≤ q.t
  | 0 => ⟨[], rfl, fun q h => by cases h⟩
  | k + 1 => by
    obtain ⟨u, hu, ht⟩ := gUp_suffix E fl c n k
    obtain ⟨v, hv, hs⟩ := gIn_suffix (E := E) (fl := fl) (t := ((n + k : Nat) : Int)) (c := c) (60 - (gUp E fl c (n + k)).length) (gUp E fl c (n + k))
    refine ⟨v ++ u, (show gUp E fl c (n + k + 1) = _ from (show gUp E fl c (n + k + 1) = gIn E fl ((n + k : Nat) : Int) c (60 - (gUp E fl c (n + k)).length) (gUp E fl c (n + k)) from rfl).trans (by rw [hv, hu]; simp)), fun q hq => ?_⟩
    rcases List.mem_append.1 hq with e | e
    · have := hs q e; omega
    · exact ht q e

/-- How many come before the tick t. -/
def cnt (t : Int) (l : List Pk) : Nat := (l.filter fun q => decide (q.t < t)).length
theorem cnt_gUp (E : Nat → Int) (fl c : Int) (n t : Nat) (h : t ≤ n) : cnt t (gUp E fl c n) = (gUp E fl c t).length := by
  obtain ⟨u, hu, ht⟩ := gUp_suffix E fl c t (n - t)
  rw [show t + (n - t) = n by omega] at hu
  rw [hu]
  unfold cnt
  rw [List.filter_append, List.filter_eq_nil_iff.2 (fun q hq => by have := ht q hq; simp; omega), List.nil_append, List.filter_eq_self.2 (fun q hq => by have := ((gUp_sent E fl c t).mem q hq).2.2.2; simp; omega)]
/-- In an ascending list those before a tick come first. -/
theorem cnt_asc {l : List Pk} (h : Asc l) {t : Int} {j : Nat} {q : Pk} (hq : l[j]? = some q) : q.t < t ↔ j < cnt t l := by
  induction l generalizing j with
  | nil => cases hq
  | cons x r ih =>
    have hc := asc_cons.1 h
    unfold cnt at ih ⊢
    rw [List.filter_cons]
    by_cases d : x.t < t
    · rw [if_pos (by simpa using d)]
      cases j with
      | zero => cases hq; simp only [List.length_cons]; exact ⟨fun _ => by omega, fun _ => d⟩
      | succ j =>
        rw [List.getElem?_cons_succ] at hq
        have := ih hc.2 hq
        simp only [List.length_cons]; omega
    · rw [if_neg (by simpa using d)]
      have hall : r.filter (fun q => decide (q.t < t)) = [] := List.filter_eq_nil_iff.2 (fun y hy => by have := hc.1 y hy; simp; omega)
      rw [hall]
      have hx : x.t ≤ q.t := by
        cases j with
        | zero => cases hq; exact Int.le_refl _
        | succ j => exact hc.1 q (List.mem_of_getElem? hq)
      simp only [List.length_nil]; omega
theorem cnt_le (t : Int) (l : List Pk) : cnt t l ≤ l.length := List.length_filter_le _ _
theorem sum_size {c : Int} : ∀ l : List Pk, (∀ q ∈ l, q.s = c) → sumG Pk.s l = (l.length : Int) * c
  | [], _ => by simp [sumG]
  | x :: r, h => by
    show x.s + sumG Pk.s r = ((r.length + 1 : Nat) : Int) * c
    rw [h x (by simp), sum_size r (fun q hq => h q (by simp [hq])), Int.natCast_add, Int.add_mul]
    simp; omega
/-- Windows of a list that keeps what is allowed, all of one size. -/
theorem fits_win {E : Nat → Int} {c : Int} : ∀ (l : List Pk), fitR E l.reverse = true → (∀ q ∈ l, q.s = c) → ∀ i j x y, i ≤ j → l[i]? = some x → l[j]? = some y → ((j - i + 1 : Nat) : Int) * c ≤ E (y.t + 1 - x.t).toNat := by
  intro l hfit hs i j x y hij hx hy
  have hj : j < l.length := (List.getElem?_eq_some_iff.1 hy).1
  -- the prefix that ends with j
  have hcut : ∀ (u v : List Pk), fitR E (u ++ v) = true → fitR E v = true := fun u => by
    induction u with
    | nil => intro v h; exact h
    | cons y u ih => intro v h; rw [List.cons_append] at h; unfold fitR at h; rw [Bool.and_eq_true] at h; exact ih v h.2
  have hl : l.reverse = (l.drop (j + 1)).reverse ++ (l.take (j + 1)).reverse := by rw [← List.reverse_append, List.take_append_drop]
  rw [hl] at hfit
  have h1 := hcut _ _ hfit
  have ht : l.take (j + 1) = l.take j ++ [y] := by
    rw [List.take_add_one, hy]; rfl
  rw [ht, List.reverse_append] at h1
  have h2 : (exB E (y.t + 1) 0 (y :: (l.take j).reverse)).isNone = true := by
    have : fitR E (y :: (l.take j).reverse) = true := h1
    unfold fitR at this
    rw [Bool.and_eq_true] at this; exact this.1
  rw [exB_none] at h2
  have hrev : (y :: (l.take j).reverse) = (l.take (j + 1)).reverse := by rw [ht, List.reverse_append]; rfl
  have hat : (y :: (l.take j).reverse)[j - i]? = some x := by
    rw [hrev, List.getElem?_reverse (by rw [List.length_take]; omega), List.length_take, List.getElem?_take]
    rw [show min (j + 1) l.length - 1 - (j - i) = i by omega, if_pos (by omega)]
    exact hx
  have h3 := h2 (j - i) x hat
  rw [sum_size (c := c) _ (fun q hq => ?_)] at h3
  · rw [List.length_take, hrev, List.length_reverse, List.length_take] at h3
    rw [show min (j - i + 1) (min (j + 1) l.length) = j - i + 1 by omega] at h3
    omega
  · have hm := List.mem_of_mem_take hq
    rw [hrev, List.mem_reverse] at hm
    exact hs q (List.mem_of_mem_take hm)

/-- No trace of packets of this size that keeps what is allowed has more. -/
theorem greedy_most {E : Nat → Int} (hE : ∀ i j, i ≤ j → E i ≤ E j) {fl c : Int} {q : List Pk} (hq : Asc q) (hs : ∀ x ∈ q, x.s = c ∧ 0 ≤ x.t) (hfit : fitR E q.reverse = true) {N : Nat} (hN : (gUp E fl c N).length < 60) :
    ∀ t : Nat, t ≤ N → cnt t q ≤ (gUp E fl c t).length := by
  intro t
  induction t using Nat.strongRecOn with
  | ind t ih =>
    intro htN
    rcases Nat.lt_or_ge (gUp E fl c t).length (cnt t q) with hlt | hge
    case inr => exact hge
    exfalso
    have hcl := cnt_le t q
    obtain ⟨y, hy⟩ : ∃ y, q[(gUp E fl c t).length]? = some y := ⟨_, List.getElem?_eq_getElem (by omega)⟩
    have hyt : y.t < (t : Int) := (cnt_asc hq hy).2 hlt
    have hy0 := (hs y (List.mem_of_getElem? hy)).2
    obtain ⟨t', rfl⟩ : ∃ t', t = t' + 1 := ⟨t - 1, by omega⟩
    obtain ⟨m, hm⟩ : ∃ m, (gUp E fl c (t' + 1)).length = m := ⟨_, rfl⟩
    rw [hm] at hlt hy
    have hm60 : m < 60 := by
      obtain ⟨u, hu, _⟩ := gUp_suffix E fl c (t' + 1) (N - (t' + 1))
      rw [show t' + 1 + (N - (t' + 1)) = N by omega] at hu
      rw [hu, List.length_append] at hN; omega
    have hend := gUp_end (E := E) (fl := fl) (c := c) (n := t') (by rw [hm]; exact hm60)
    have hno : (exB E ((t' : Int) + 1) 0 ((⟨fl, t', c⟩ : Pk) :: gUp E fl c (t' + 1))).isNone = true := by
      rw [exB_none]
      intro i x hx
      have hlen : i ≤ m := by
        have := (List.getElem?_eq_some_iff.1 hx).1
        simp only [List.length_cons] at this; omega
      rw [sum_size (c := c) _ (fun z hz => by
        rcases List.mem_cons.1 (List.mem_of_mem_take hz) with e | e
        · rw [e]
        · exact ((gUp_sent E fl c (t' + 1)).mem z e).2.1)]
      rw [List.length_take, List.length_cons, hm, show min (i + 1) (m + 1) = i + 1 by omega]
      -- the packet of q that stands where x stands
      obtain ⟨z, hz⟩ : ∃ z, q[m - i]? = some z := ⟨_, List.getElem?_eq_getElem (by omega)⟩
      have hw := fits_win (c := c) q hfit (fun x hx => (hs x hx).1) (m - i) m z y (by omega) hz hy
      rw [show m - (m - i) + 1 = i + 1 by omega] at hw
      have hzt : z.t ≤ y.t := by
        rcases Nat.eq_or_lt_of_le (show m - i ≤ m by omega) with e | e
        · rw [e, hy] at hz; cases hz; exact Int.le_refl _
        · obtain ⟨hz1, hz2⟩ := List.getElem?_eq_some_iff.1 hz
          obtain ⟨hy1, hy2⟩ := List.getElem?_eq_some_iff.1 hy
          have := (List.pairwise_iff_getElem.1 hq) (m - i) m hz1 hy1 e
          rw [hz2, hy2] at this; exact this
      have hz0 := (hs z (List.mem_of_getElem? hz)).2
      have hxz : x.t ≤ z.t ∨ i = 0 := by
        cases i with
        | zero => exact .inr rfl
        | succ i =>
          left
          rw [List.getElem?_cons_succ] at hx
          have hxm := (gUp_sent E fl c (t' + 1)).mem x (List.mem_of_getElem? hx)
          rcases Int.lt_or_le z.t t' with hzl | hzl
          · -- it was sent before
            obtain ⟨k, hk⟩ : ∃ k : Nat, z.t = k := ⟨z.t.toNat, by omega⟩
            have hc2 := (cnt_asc hq (t := ((k + 1 : Nat) : Int)) hz).1 (by omega)
            have hg := ih (k + 1) (by omega) (by omega)
            obtain ⟨u, hu, hut⟩ := gUp_suffix E fl c (k + 1) (t' + 1 - (k + 1))
            rw [show k + 1 + (t' + 1 - (k + 1)) = t' + 1 by omega] at hu
            have hul : u.length + (gUp E fl c (k + 1)).length = m := by rw [← hm, hu, List.length_append]
            rw [hu, List.getElem?_append_right (by omega)] at hx
            have := ((gUp_sent E fl c (k + 1)).mem x (List.mem_of_getElem? hx)).2.2.2
            omega
          · omega
      refine Int.le_trans ?_ (hE (y.t + 1 - z.t).toNat _ ?_)
      · rw [Int.zero_add]; exact hw
      · rcases hxz with h | h
        · omega
        · subst h
          have hxe : x = ⟨fl, t', c⟩ := by cases hx; rfl
          rw [hxe]
          show _ ≤ ((t' : Int) + 1 - (t' : Int)).toNat
          rw [Nat.sub_zero, hy] at hz; cases hz; omega
    rw [hno] at hend
    cases hend
end Go.Proofs.Ytknimlpdpgpliaa

namespace Go.Proofs.Ytknimlpdpgpliaa
set_option linter.unusedSimpArgs false
set_option linter.unusedVariables false

/-- The first of k ticks from τ on at which a packet may come. -/
def tryT (E : Nat → Int) (f s : Int) (acc : List Pk) : Nat → Int → Option Int
  | 0, τ => none
  | k + 1, τ => if (exB E (τ + 1) 0 ((⟨f, τ, s⟩ : Pk) :: acc)).isNone = true then some τ else tryT E f s acc k (τ + 1)
/-- The tick of the last one. -/
def headT : List Pk → Int
  | [] => 0
  | q :: _ => q.t
/-- Where a packet goes. -/
def shT (E : Nat → Int) (acc : List Pk) (q : Pk) : Option Int := tryT E q.f q.s acc (2001 - (max q.t (headT acc))).toNat (max q.t (headT acc))
/-- The trace with the packets of the flow at their ticks; what has come is acc, the last one first. -/
def shL (E : Nat → Int) (fl : Int) : List Pk → List Pk → Option (List Pk)
  | acc, [] => some []
  | acc, q :: r => if fl = -1 ∨ q.f = fl then (match shT E acc q with
      | none => none
      | some τ => (shL E fl (⟨q.f, τ, q.s⟩ :: acc) r).map (⟨q.f, τ, q.s⟩ :: ·))
    else (shL E fl acc r).map (q :: ·)
theorem shL_cons (E : Nat → Int) (fl : Int) (acc : List Pk) (q : Pk) (r : List Pk) : shL E fl acc (q :: r) = if fl = -1 ∨ q.f = fl then (match shT E acc q with
      | none => none
      | some τ => (shL E fl (⟨q.f, τ, q.s⟩ :: acc) r).map (⟨q.f, τ, q.s⟩ :: ·))
    else (shL E fl acc r).map (q :: ·) := rfl
theorem tryT_some {E : Nat → Int} {f s : Int} {acc : List Pk} : ∀ {k : Nat} {τ x : Int}, tryT E f s acc k τ = some x → τ ≤ x ∧ x < τ + k ∧ (exB E (x + 1) 0 ((⟨f, x, s⟩ : Pk) :: acc)).isNone = true ∧ ∀ y, τ ≤ y → y < x → (exB E (y + 1) 0 ((⟨f, y, s⟩ : Pk) :: acc)).isNone = false
  | 0, τ, x, h => by cases h
  | k + 1, τ, x, h => by
    unfold tryT at h
    by_cases c : (exB E (τ + 1) 0 ((⟨f, τ, s⟩ : Pk) :: acc)).isNone = true
    · rw [if_pos c] at h
      cases h
      exact ⟨Int.le_refl _, by omega, c, fun y h1 h2 => by omega⟩
    · rw [if_neg c] at h
      obtain ⟨h1, h2, h3, h4⟩ := tryT_some h
      refine ⟨by omega, by omega, h3, fun y hy1 hy2 => ?_⟩
      rcases Int.lt_or_le τ y with d | d
      · exact h4 y (by omega) hy2
      · obtain rfl : y = τ := by omega
        exact Bool.eq_false_iff.2 c
theorem tryT_now {E : Nat → Int} {f s : Int} {acc : List Pk} {k : Nat} {τ : Int} (c : (exB E (τ + 1) 0 ((⟨f, τ, s⟩ : Pk) :: acc)).isNone = true) (hk : 1 ≤ k) : tryT E f s acc k τ = some τ := by
  obtain ⟨k, rfl⟩ : ∃ j, k = j + 1 := ⟨k - 1, by omega⟩
  unfold tryT; rw [if_pos c]
theorem shT_some {E : Nat → Int} {acc : List Pk} {q : Pk} {x : Int} (h : shT E acc q = some x) : q.t ≤ x ∧ headT acc ≤ x ∧ x ≤ 2000 ∧ (exB E (x + 1) 0 ((⟨q.f, x, q.s⟩ : Pk) :: acc)).isNone = true ∧ ∀ y, q.t ≤ y → headT acc ≤ y → y < x → (exB E (y + 1) 0 ((⟨q.f, y, q.s⟩ : Pk) :: acc)).isNone = false := by
  obtain ⟨h1, h2, h3, h4⟩ := tryT_some h
  exact ⟨by omega, by omega, by omega, h3, fun y hy1 hy2 hy3 => h4 y (by omega) hy3⟩
/-- What has been shaped: ascending, within its ranges, and it keeps what is allowed. -/
structure ShA (E : Nat → Int) (acc : List Pk) : Prop where
  asc : Asc acc.reverse
  ok : ∀ q ∈ acc, okP q = true
  fit : fitR E acc = true
theorem headT_max {acc : List Pk} (h : Asc acc.reverse) : ∀ q ∈ acc, q.t ≤ headT acc := by
  cases acc with
  | nil => intro q hq; cases hq
  | cons x r =>
    intro q hq
    rcases List.mem_cons.1 hq with e | e
    · rw [e]; exact Int.le_refl _
    · rw [List.reverse_cons] at h
      exact (asc_append.1 h).2.2 q (List.mem_reverse.2 e) x (by simp)
theorem headT_bd {acc : List Pk} (h : ∀ q ∈ acc, okP q = true) : 0 ≤ headT acc ∧ headT acc ≤ 2000 := by
  cases acc with
  | nil => exact ⟨Int.le_refl _, by show (0 : Int) ≤ 2000; omega⟩
  | cons x r => have := (okP_iff x).1 (h x (by simp)); show 0 ≤ x.t ∧ x.t ≤ 2000; omega
theorem ShA.push {E : Nat → Int} {acc : List Pk} {q : Pk} {x : Int} (h : ShA E acc) (hq : okP q = true) (hx : shT E acc q = some x) : ShA E (⟨q.f, x, q.s⟩ :: acc) := by
  obtain ⟨h1, h2, h3, h4, _⟩ := shT_some hx
  have hqo := (okP_iff q).1 hq
  refine ⟨?_, fun y hy => ?_, by unfold fitR; rw [h.fit]; exact by rw [show (exB E ((⟨q.f, x, q.s⟩ : Pk).t + 1) 0 ((⟨q.f, x, q.s⟩ : Pk) :: acc)).isNone = true from h4]; rfl⟩
  · rw [List.reverse_cons]
    refine asc_append.2 ⟨h.asc, asc_one _, fun a ha b hb => ?_⟩
    rw [List.mem_singleton.1 hb]
    have := headT_max h.asc a (List.mem_reverse.1 ha)
    show a.t ≤ x; omega
  · rcases List.mem_cons.1 hy with e | e
    · rw [e]; exact (okP_iff _).2 ⟨hqo.1, hqo.2.1, by show 0 ≤ x; omega, h3, hqo.2.2.2.2.1, hqo.2.2.2.2.2⟩
    · exact h.ok y e
end Go.Proofs.Ytknimlpdpgpliaa
