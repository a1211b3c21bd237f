/- The mathematics of what Shape returns: the same packets in each flow, none of them earlier, no one by one tick; shaping again changes nothing. Nothing here speaks of the program. By the verifier's side. -/
import Derived.Test.YtknimlpdpgpliaaCCfT
namespace Go.Proofs.Ytknimlpdpgpliaa
set_option linter.unusedSimpArgs false
set_option linter.unusedVariables false

/-- Shaping one flow alone. -/
def shS (E : Nat → Int) : List Pk → List Pk → Option (List Pk)
  | acc, [] => some []
  | acc, q :: r => match shT E acc q with
      | none => none
      | some τ => (shS E (⟨q.f, τ, q.s⟩ :: acc) r).map (⟨q.f, τ, q.s⟩ :: ·)
theorem shS_cons (E : Nat → Int) (acc : List Pk) (q : Pk) (r : List Pk) : shS E acc (q :: r) = match shT E acc q with
      | none => none
      | some τ => (shS E (⟨q.f, τ, q.s⟩ :: acc) r).map (⟨q.f, τ, q.s⟩ :: ·) := rfl
theorem ofFlow_eq {fl : Int} {q : Pk} (t s : Int) : ofFlow fl ⟨q.f, t, s⟩ = ofFlow fl q := rfl
/-- The flow in the shaped trace is the shaped flow. -/
theorem shL_own {E : Nat → Int} {fl : Int} (hf : -1 ≤ fl) : ∀ (l acc M : List Pk), shL E fl acc l = some M → shS E acc (sel fl l) = some (sel fl M)
  | [], acc, M, h => by cases h; rfl
  | q :: r, acc, M, h => by
    rw [shL_cons] at h
    rw [sel_cons, ofFlow_nn hf]
    by_cases c : fl = -1 ∨ q.f = fl
    · rw [if_pos c] at h
      rw [if_pos (by simpa using c), shS_cons]
      cases hs : shT E acc q with
      | none => rw [hs] at h; cases h
      | some τ =>
        rw [hs] at h
        obtain ⟨m, hm, rfl⟩ := Option.map_eq_some_iff.1 h
        rw [sel_cons, ofFlow_eq, ofFlow_nn hf, if_pos (by simpa using c)]
        show (shS E (⟨q.f, τ, q.s⟩ :: acc) (sel fl r)).map _ = _
        rw [shL_own hf r _ m hm]; rfl
    · rw [if_neg c] at h
      rw [if_neg (by simpa using c)]
      obtain ⟨m, hm, rfl⟩ := Option.map_eq_some_iff.1 h
      rw [sel_cons, ofFlow_nn hf, if_neg (by simpa using c)]
      exact shL_own hf r _ m hm
/-- Other flows are as they were. -/
theorem shL_other {E : Nat → Int} {fl g : Int} (hg : 0 ≤ g) (hne : g ≠ fl) (hfl : fl ≠ -1) : ∀ (l acc M : List Pk), shL E fl acc l = some M → sel g M = sel g l
  | [], acc, M, h => by cases h; rfl
  | q :: r, acc, M, h => by
    rw [shL_cons] at h
    by_cases c : fl = -1 ∨ q.f = fl
    · rw [if_pos c] at h
      have hq : ofFlow g q = false := by rw [ofFlow_nn (by omega)]; simp; omega
      cases hs : shT E acc q with
      | none => rw [hs] at h; cases h
      | some τ =>
        rw [hs] at h
        obtain ⟨m, hm, rfl⟩ := Option.map_eq_some_iff.1 h
        rw [sel_cons, sel_cons, ofFlow_eq, hq]
        simpa using shL_other hg hne hfl r _ m hm
    · rw [if_neg c] at h
      obtain ⟨m, hm, rfl⟩ := Option.map_eq_some_iff.1 h
      rw [sel_cons, sel_cons, shL_other hg hne hfl r _ m hm]
theorem shL_len {E : Nat → Int} {fl : Int} : ∀ (l acc M : List Pk), shL E fl acc l = some M → M.length = l.length
  | [], acc, M, h => by cases h; rfl
  | q :: r, acc, M, h => by
    rw [shL_cons] at h
    by_cases c : fl = -1 ∨ q.f = fl
    · rw [if_pos c] at h
      cases hs : shT E acc q with
      | none => rw [hs] at h; cases h
      | some τ =>
        rw [hs] at h
        obtain ⟨m, hm, rfl⟩ := Option.map_eq_some_iff.1 h
        simp only [List.length_cons, shL_len r _ m hm]
    · rw [if_neg c] at h
      obtain ⟨m, hm, rfl⟩ := Option.map_eq_some_iff.1 h
      simp only [List.length_cons, shL_len r _ m hm]
theorem shL_ok {E : Nat → Int} {fl : Int} : ∀ (l acc M : List Pk), shL E fl acc l = some M → ShA E acc → (∀ q ∈ l, okP q = true) → ∀ x ∈ M, okP x = true
  | [], acc, M, h, _, _ => by cases h; intro x hx; cases hx
  | q :: r, acc, M, h, hA, ho => by
    rw [shL_cons] at h
    have hq := ho q (by simp)
    by_cases c : fl = -1 ∨ q.f = fl
    · rw [if_pos c] at h
      cases hs : shT E acc q with
      | none => rw [hs] at h; cases h
      | some τ =>
        rw [hs] at h
        obtain ⟨m, hm, rfl⟩ := Option.map_eq_some_iff.1 h
        have hp := hA.push hq hs
        intro x hx
        rcases List.mem_cons.1 hx with e | e
        · rw [e]; exact hp.ok _ (by simp)
        · exact shL_ok r _ m hm hp (fun y hy => ho y (by simp [hy])) x e
    · rw [if_neg c] at h
      obtain ⟨m, hm, rfl⟩ := Option.map_eq_some_iff.1 h
      intro x hx
      rcases List.mem_cons.1 hx with e | e
      · rw [e]; exact hq
      · exact shL_ok r _ m hm hA (fun y hy => ho y (by simp [hy])) x e
/-- What shaping one flow gives. -/
theorem shS_sha {E : Nat → Int} : ∀ (l acc B : List Pk), shS E acc l = some B → ShA E acc → (∀ q ∈ l, okP q = true) → ShA E (B.reverse ++ acc)
  | [], acc, B, h, hA, _ => by cases h; exact hA
  | q :: r, acc, B, h, hA, ho => by
    rw [shS_cons] at h
    cases hs : shT E acc q with
    | none => rw [hs] at h; cases h
    | some τ =>
      rw [hs] at h
      obtain ⟨m, hm, rfl⟩ := Option.map_eq_some_iff.1 h
      have hp := hA.push (ho q (by simp)) hs
      have := shS_sha r _ m hm hp (fun y hy => ho y (by simp [hy]))
      rw [List.reverse_cons, List.append_assoc]; exact this
theorem shS_len {E : Nat → Int} : ∀ (l acc B : List Pk), shS E acc l = some B → B.length = l.length
  | [], acc, B, h => by cases h; rfl
  | q :: r, acc, B, h => by
    rw [shS_cons] at h
    cases hs : shT E acc q with
    | none => rw [hs] at h; cases h
    | some τ =>
      rw [hs] at h
      obtain ⟨m, hm, rfl⟩ := Option.map_eq_some_iff.1 h
      simp only [List.length_cons, shS_len r _ m hm]
theorem shS_at {E : Nat → Int} : ∀ (l acc B : List Pk), shS E acc l = some B → ∀ (i : Nat) (x y : Pk), l[i]? = some x → B[i]? = some y → y.f = x.f ∧ y.s = x.s ∧ shT E ((B.take i).reverse ++ acc) x = some y.t
  | [], acc, B, h, i, x, y, hx, hy => by cases hx
  | q :: r, acc, B, h, i, x, y, hx, hy => by
    rw [shS_cons] at h
    cases hs : shT E acc q with
    | none => rw [hs] at h; cases h
    | some τ =>
      rw [hs] at h
      obtain ⟨m, hm, rfl⟩ := Option.map_eq_some_iff.1 h
      cases i with
      | zero => cases hx; cases hy; exact ⟨rfl, rfl, hs⟩
      | succ i =>
        rw [List.getElem?_cons_succ] at hx hy
        have := shS_at r _ m hm i x y hx hy
        rw [List.take_succ_cons, List.reverse_cons, List.append_assoc]
        exact this
/-- No packet could have been earlier by one tick. -/
theorem shT_least {E : Nat → Int} {acc : List Pk} {q : Pk} {x : Int} (h : shT E acc q = some x) (h1 : q.t < x) (h2 : headT acc < x) : (exB E (x - 1 + 1) 0 ((⟨q.f, x - 1, q.s⟩ : Pk) :: acc)).isNone = false :=
  (shT_some h).2.2.2.2 (x - 1) (by omega) (by omega) (by omega)
/-- What keeps what is allowed stays. -/
theorem shL_id {E : Nat → Int} {fl : Int} (hf : -1 ≤ fl) : ∀ (l acc : List Pk), Asc l → (∀ q ∈ l, okP q = true ∧ headT acc ≤ q.t) → fitR E ((sel fl l).reverse ++ acc) = true → shL E fl acc l = some l
  | [], acc, _, _, _ => rfl
  | q :: r, acc, ha, ho, h => by
    have hcut : ∀ (u v : List Pk), fitR E (u ++ v) = true → fitR E v = true := fun u => by
      induction u with
      | nil => intro v h; exact h
      | cons y u ih => intro v h; rw [List.cons_append] at h; unfold fitR at h; rw [Bool.and_eq_true] at h; exact ih v h.2
    have hc := asc_cons.1 ha
    rw [sel_cons, ofFlow_nn hf] at h
    rw [shL_cons]
    by_cases c : fl = -1 ∨ q.f = fl
    · rw [if_pos (by simpa using c), List.reverse_cons, List.append_assoc] at h
      have hx : fitR E (q :: acc) = true := hcut _ _ h
      have d : (exB E (q.t + 1) 0 (q :: acc)).isNone = true := by unfold fitR at hx; rw [Bool.and_eq_true] at hx; exact hx.1
      obtain ⟨hq1, hq2⟩ := ho q (by simp)
      have hqo := (okP_iff q).1 hq1
      have hs : shT E acc q = some q.t := by
        unfold shT
        rw [show max q.t (headT acc) = q.t by omega]
        exact tryT_now d (by omega)
      rw [if_pos c, hs]
      show (shL E fl (q :: acc) r).map _ = _
      rw [shL_id hf r (q :: acc) hc.2 (fun y hy => ⟨(ho y (by simp [hy])).1, hc.1 y hy⟩) h]; rfl
    · rw [if_neg (by simpa using c)] at h
      rw [if_neg c, shL_id hf r acc hc.2 (fun y hy => ho y (by simp [hy])) h]; rfl
theorem ins_cons14 (x y : Pk) (r : List Pk) : ins x (y :: r) = if x.t < y.t then x :: y :: r else y :: ins x r := rfl
/-- The order keeps the order of a part. -/
theorem ins_filt (P : Pk → Bool) (x : Pk) : ∀ l : List Pk, Asc l → (ins x l).filter P = if P x = true then ins x (l.filter P) else l.filter P
  | [], _ => by
    show [x].filter P = _
    by_cases c : P x = true
    · rw [if_pos c]; simp [c, ins]
    · rw [if_neg c]; simp [c]
  | y :: r, h => by
    have hc := asc_cons.1 h
    rw [ins_cons14]
    by_cases d : x.t < y.t
    · rw [if_pos d, List.filter_cons]
      by_cases c : P x = true
      · rw [if_pos c, if_pos c]
        have : ∀ z ∈ (y :: r).filter P, x.t < z.t := fun z hz => by
          rcases List.mem_cons.1 (List.mem_filter.1 hz).1 with e | e
          · rw [e]; exact d
          · have := hc.1 z e; omega
        have g := ins_gt x ((y :: r).filter P) this []
        rw [List.nil_append] at g
        rw [g]; rfl
      · rw [if_neg c, if_neg c]
    · rw [if_neg d, List.filter_cons, List.filter_cons, ins_filt P x r hc.2]
      by_cases c : P x = true
      · rw [if_pos c, if_pos c]
        by_cases e : P y = true
        · rw [if_pos e, if_pos e]
          rw [ins_cons14, if_neg d]
        · rw [if_neg e, if_neg e]
      · rw [if_neg c, if_neg c]
theorem into_filt (P : Pk → Bool) : ∀ (B A : List Pk), Asc A → (into A B).filter P = into (A.filter P) (B.filter P)
  | [], A, _ => rfl
  | b :: B, A, h => by
    rw [into_cons, into_filt P B _ (ins_asc b A h), ins_filt P b A h, List.filter_cons]
    by_cases c : P b = true
    · rw [if_pos c, if_pos c, into_cons]
    · rw [if_neg c, if_neg c]
theorem sel_isort (fl : Int) (l : List Pk) : sel fl (isort l) = isort (sel fl l) := into_filt (ofFlow fl) l [] asc_nil

/-- What ConformShapes asks of a trace that Shape returns. -/
structure Shd (E : Nat → Int) (l q : List Pk) : Prop where
  asc : Asc q
  ok : ∀ x ∈ q, okP x = true
  len : q.length = l.length
  again : shL E 0 [] q = some q
  keeps : kpB E 0 q = true
  own : (sel 0 q).length = (sel 0 l).length
  other : sel 1 q = sel 1 l
  at' : ∀ (i : Nat) (x y : Pk), (sel 0 l)[i]? = some x → (sel 0 q)[i]? = some y → y.s = x.s ∧ x.t ≤ y.t
  early : ∀ (i : Nat) (x y : Pk), (sel 0 l)[i]? = some x → (sel 0 q)[i]? = some y → ¬ y.t = x.t → (i = 0 ∨ ∀ z, (sel 0 q)[i - 1]? = some z → ¬ y.t = z.t) → kpB E 0 ((sel 0 q).take i ++ [⟨y.f, y.t - 1, y.s⟩]) = false
theorem shaped {E : Nat → Int} {l M : List Pk} (ha : Asc l) (ho : ∀ x ∈ l, okP x = true) (h : shL E 0 [] l = some M) : Shd E l (isort M) := by
  have h0 : ShA E [] := ⟨asc_nil, fun q h => (by cases h), rfl⟩
  have hB := shL_own (by decide) l [] M h
  have hSo : ∀ x ∈ sel 0 l, okP x = true := fun x hx => ho x (List.mem_filter.1 hx).1
  have hA := shS_sha (sel 0 l) [] (sel 0 M) hB h0 hSo
  rw [List.append_nil] at hA
  have hBa : Asc (sel 0 M) := by have := hA.asc; rwa [List.reverse_reverse] at this
  have hq0 : sel 0 (isort M) = sel 0 M := by rw [sel_isort, isort_id _ hBa]
  have hok : ∀ x ∈ isort M, okP x = true := fun x hx => shL_ok l [] M h h0 ho x ((mem_isort x M).1 hx)
  have hkp : kpB E 0 (isort M) = true := by unfold kpB; rw [hq0]; exact hA.fit
  have hsel : ∀ (l : List Pk), (∀ x ∈ l, x.f = 0) → sel 0 l = l := fun l hl => List.filter_eq_self.2 (fun x hx => by unfold ofFlow; simp [hl x hx])
  refine ⟨isort_asc M, hok, by rw [isort_length, shL_len l [] M h], ?_, hkp, by rw [hq0]; exact shS_len _ _ _ hB, ?_, ?_, ?_⟩
  · refine shL_id (by decide) (isort M) [] (isort_asc M) (fun x hx => ⟨hok x hx, ?_⟩) (by rw [List.append_nil]; exact hkp)
    have := (okP_iff x).1 (hok x hx)
    show (0 : Int) ≤ x.t; omega
  · rw [sel_isort, shL_other (by decide) (by decide) (by decide) l [] M h]
    exact isort_id _ (ha.filter _)
  · intro i x y hx hy
    rw [hq0] at hy
    obtain ⟨_, h2, h3⟩ := shS_at (sel 0 l) [] (sel 0 M) hB i x y hx hy
    exact ⟨h2, (shT_some h3).1⟩
  · intro i x y hx hy hne hpr
    rw [hq0] at hy hpr ⊢
    obtain ⟨h1, h2, h3⟩ := shS_at (sel 0 l) [] (sel 0 M) hB i x y hx hy
    rw [List.append_nil] at h3
    have hle := (shT_some h3).1
    have hhd : headT ((sel 0 M).take i).reverse < y.t := by
      cases i with
      | zero =>
        have := (okP_iff x).1 (hSo x (List.mem_of_getElem? hx))
        show (0 : Int) < y.t; omega
      | succ i =>
        obtain ⟨z, hz⟩ : ∃ z, (sel 0 M)[i]? = some z := ⟨_, List.getElem?_eq_getElem (by have := (List.getElem?_eq_some_iff.1 hy).1; omega)⟩
        have hh := (shT_some h3).2.1
        rw [List.take_add_one, hz, List.reverse_append] at hh ⊢
        have hh' : z.t ≤ y.t := hh
        show z.t < y.t
        rcases hpr with h | h
        · omega
        · have := h z hz; omega
    have hl := shT_least h3 (by omega) hhd
    unfold kpB
    rw [hsel _ (fun z hz => ?_), List.reverse_append]
    · show fitR E (⟨y.f, y.t - 1, y.s⟩ :: ((sel 0 M).take i).reverse) = false
      unfold fitR
      rw [← h1, ← h2] at hl
      rw [show (exB E ((⟨y.f, y.t - 1, y.s⟩ : Pk).t + 1) 0 ((⟨y.f, y.t - 1, y.s⟩ : Pk) :: ((sel 0 M).take i).reverse)).isNone = false from hl]; rfl
    · have hf : ∀ w ∈ sel 0 M, w.f = 0 := fun w hw => by
        have := (List.mem_filter.1 hw).2
        unfold ofFlow at this
        simpa using this
      rcases List.mem_append.1 hz with e | e
      · exact hf z (List.mem_of_mem_take e)
      · rw [List.mem_singleton.1 e]; exact hf y (List.mem_of_getElem? hy)
end Go.Proofs.Ytknimlpdpgpliaa
