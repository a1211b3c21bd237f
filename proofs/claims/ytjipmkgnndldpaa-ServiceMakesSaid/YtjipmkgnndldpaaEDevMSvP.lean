/- How far one curve is ahead of another: the delay and the backlog by what they mean, each unique, and what one window of ticks says of them. No program. By the verifier's side. -/
import Derived.Test.YtjipmkgnndldpaaEDecM
import Derived.Test.YtjipmkgnndldpaaESvESvN
import Derived.Test.YtjipmkgnndldpaaESvLSvCSvD
import Derived.Test.YtjipmkgnndldpaaEConMN
namespace Go.Proofs.Ytjipmkgnndldpaa
open Go.RowKit
set_option linter.unusedSimpArgs false
set_option linter.unusedVariables false

section
variable {a b a' b' : Nat → Option Int}

theorem not_ole {x y : Option Int} : ¬ ole x y ↔ ∃ v, y = some v ∧ ∀ u, x = some u → v < u := by
  constructor
  · intro h
    cases y with
    | none => exact absurd (ole_none x) h
    | some v =>
      refine ⟨v, rfl, fun u hu => ?_⟩
      subst hu
      exact Int.not_le.1 fun hl => h (ole_some hl)
  · rintro ⟨v, rfl, h⟩ k
    obtain ⟨u, hu, hl⟩ := k v rfl
    have := h u hu
    omega
theorem ole_total (x y : Option Int) : ole x y ∨ ole y x := by
  cases x with
  | none => exact .inr (ole_none _)
  | some u =>
    cases y with
    | none => exact .inl (ole_none _)
    | some v =>
      rcases Int.le_total u v with h | h
      · exact .inl (ole_some h)
      · exact .inr (ole_some h)
theorem ole_some_iff {x y : Int} : ole (some x) (some y) ↔ x ≤ y := ⟨fun h => by obtain ⟨z, hz, hl⟩ := h y rfl; cases hz; exact hl, ole_some⟩
theorem not_none_le {y : Int} : ¬ ole none (some y) := fun h => by obtain ⟨z, hz, _⟩ := h y rfl; cases hz

def Up (b : Nat → Option Int) : Prop := ∀ t k, ole (b t) (b (t + k))
theorem Up.le (h : Up b) {s t : Nat} (hst : s ≤ t) : ole (b s) (b t) := by
  have := h s (t - s); rwa [show s + (t - s) = t by omega] at this
theorem Up.next (h : Up b) : Up (fun t => b (t + 1)) := fun t k => by
  show ole (b (t + 1)) (b (t + k + 1))
  have := h (t + 1) k; rwa [show t + 1 + k = t + k + 1 by omega] at this

/-- The delay of a and b is n, first at the tick k; i: it is infinite. -/
def DelayP (a b : Nat → Option Int) (i : Bool) (n k : Nat) : Prop :=
  (i = true ∧ n = 0 ∧ k = 0 ∧ ∀ d, ∃ t, ¬ ole (a t) (b (t + d))) ∨
  (i = false ∧ (∀ t, ole (a t) (b (t + n))) ∧ ((n = 0 ∧ k = 0) ∨ (1 ≤ n ∧ ¬ ole (a k) (b (k + (n - 1))) ∧ ∀ t, t < k → ole (a t) (b (t + (n - 1))))))
theorem DelayP.unique (hb : Up b) {i j : Bool} {n m k l : Nat} (h : DelayP a b i n k) (h' : DelayP a b j m l) : i = j ∧ n = m ∧ k = l := by
  have fin : ∀ {n m k l : Nat}, (∀ t, ole (a t) (b (t + n))) → (1 ≤ m ∧ ¬ ole (a l) (b (l + (m - 1))) ∧ ∀ t, t < l → ole (a t) (b (t + (m - 1)))) → m ≤ n := by
    intro n m k l h1 h2
    apply Nat.not_lt.1
    intro hlt
    exact h2.2.1 (ole_trans (h1 l) (hb.le (by omega)))
  rcases h with ⟨rfl, rfl, rfl, h⟩ | ⟨rfl, h1, h2⟩ <;> rcases h' with ⟨rfl, rfl, rfl, h'⟩ | ⟨rfl, h1', h2'⟩
  · exact ⟨rfl, rfl, rfl⟩
  · obtain ⟨t, ht⟩ := h m; exact absurd (h1' t) ht
  · obtain ⟨t, ht⟩ := h' n; exact absurd (h1 t) ht
  · rcases h2 with ⟨rfl, rfl⟩ | h2 <;> rcases h2' with ⟨rfl, rfl⟩ | h2'
    · exact ⟨rfl, rfl, rfl⟩
    · have := fin (n := 0) (m := m) (k := 0) (l := l) h1 h2'; omega
    · have := fin (n := 0) (m := n) (k := 0) (l := k) h1' h2; omega
    · have e1 := fin (k := 0) h1 h2'
      have e2 := fin (k := 0) h1' h2
      obtain rfl : n = m := by omega
      refine ⟨rfl, rfl, ?_⟩
      have := h2.2.1; have := h2'.2.1
      apply Nat.le_antisymm
      · exact Nat.not_lt.1 fun hl => h2'.2.1 (h2.2.2 l hl)
      · exact Nat.not_lt.1 fun hl => h2.2.1 (h2'.2.2 k hl)
/-- From the tick S on a grows by c in each L ticks; none: it is infinite. -/
def LateP (a : Nat → Option Int) (S L : Nat) (c : Option Int) : Prop :=
  (c = none ∧ ∀ t, S ≤ t → a t = none) ∨ ∃ x, c = some x ∧ ∀ t, S ≤ t → ∃ y, a t = some y ∧ a (t + L) = some (y + x)
theorem LateP.mono {S S' L : Nat} {c : Option Int} (h : LateP a S L c) (hs : S ≤ S') : LateP a S' L c := by
  rcases h with ⟨e, h⟩ | ⟨x, e, h⟩
  · exact .inl ⟨e, fun t ht => h t (Nat.le_trans hs ht)⟩
  · exact .inr ⟨x, e, fun t ht => h t (Nat.le_trans hs ht)⟩
theorem LateP.next {S L : Nat} {c : Option Int} (h : LateP a S L c) : LateP (fun t => a (t + 1)) S L c := by
  rcases h with ⟨e, h⟩ | ⟨x, e, h⟩
  · exact .inl ⟨e, fun t ht => h (t + 1) (by omega)⟩
  · refine .inr ⟨x, e, fun t ht => ?_⟩
    obtain ⟨y, h1, h2⟩ := h (t + 1) (by omega)
    exact ⟨y, h1, by show a (t + L + 1) = _; rw [← h2]; congr 1; omega⟩
theorem LateP.mul {S L : Nat} {x : Int} (h : LateP a S L (some x)) {t : Nat} (ht : S ≤ t) : ∃ y, a t = some y ∧ ∀ k : Nat, a (t + k * L) = some (y + (k : Int) * x) := by
  rcases h with ⟨e, h⟩ | ⟨x', e, h⟩
  · cases e
  cases e
  obtain ⟨y, h1, _⟩ := h t ht
  refine ⟨y, h1, fun k => ?_⟩
  induction k with
  | zero => simp [h1]
  | succ k ih =>
    obtain ⟨z, h3, h4⟩ := h (t + k * L) (by omega)
    rw [ih] at h3
    cases h3
    rw [show t + (k + 1) * L = t + k * L + L by rw [Nat.add_mul]; omega, h4]
    congr 1
    rw [Int.natCast_add, Int.add_mul]; omega
theorem step_all {Q : Nat → Prop} {S L : Nat} (hL : 1 ≤ L) (h : ∀ t, t < S + L → Q t) (hs : ∀ t, S ≤ t → Q t → Q (t + L)) (t : Nat) : Q t := by
  induction t using Nat.strongRecOn with
  | ind t ih =>
    by_cases ht : t < S + L
    · exact h t ht
    · have := hs (t - L) (by omega) (ih (t - L) (by omega))
      rwa [show t - L + L = t by omega] at this
/-- Where a does not grow faster, one period behind the tick S decides. -/
theorem late_delay {S L : Nat} {ca cb : Option Int} (hL : 1 ≤ L) (ha : LateP a S L ca) (hb : LateP b S L cb) (hc : ole ca cb) {n : Nat} (h : ∀ t, t < S + L → ole (a t) (b (t + n))) (t : Nat) : ole (a t) (b (t + n)) := by
  refine step_all hL h (fun t ht hq => ?_) t
  rcases hb with ⟨e, hb⟩ | ⟨y, e, hb⟩
  · rw [hb (t + L + n) (by omega)]; exact ole_none _
  · subst e
    obtain ⟨x, e, hxy⟩ := hc y rfl
    subst e
    rcases ha with ⟨e, _⟩ | ⟨x', e, ha⟩
    · cases e
    cases e
    obtain ⟨u, h1, h2⟩ := ha t ht
    obtain ⟨v, h3, h4⟩ := hb (t + n) (by omega)
    rw [h1, h3, ole_some_iff] at hq
    rw [h2, show t + L + n = t + n + L by omega, h4, ole_some_iff]
    omega
/-- Where a grows faster, it gets ahead by more than any number. -/
theorem fast_back {S L : Nat} {ca cb : Option Int} (ha : LateP a S L ca) (hb : LateP b S L cb) (hc : ¬ ole ca cb) (d : Nat) (x : Int) : ∃ t y, b (t + d) = some y ∧ ¬ ole (a t) (some (y + x)) := by
  obtain ⟨cy, rfl, hlt⟩ := not_ole.1 hc
  obtain ⟨y, hy, hym⟩ := hb.mul (t := S + d) (by omega)
  rcases ha with ⟨e, ha⟩ | ⟨cx, e, ha⟩
  · exact ⟨S, y, hy, by rw [ha S (Nat.le_refl _)]; exact not_none_le⟩
  · subst e
    have hl := hlt cx rfl
    obtain ⟨u, hu, hum⟩ := LateP.mul (a := a) (.inr ⟨cx, rfl, ha⟩) (Nat.le_refl S)
    obtain ⟨K, hK⟩ : ∃ K : Nat, K = (y + x - u + 1).toNat := ⟨_, rfl⟩
    refine ⟨S + K * L, y + (K : Int) * cy, by rw [← hym K]; congr 1; omega, ?_⟩
    rw [hum K, ole_some_iff]
    have h1 : y + x - u + 1 ≤ (K : Int) := by omega
    have h2 : (K : Int) * (cy + 1) ≤ (K : Int) * cx := Int.mul_le_mul_of_nonneg_left (by omega) (by omega)
    rw [Int.mul_add] at h2
    omega
theorem fast_delay {S L : Nat} {ca cb : Option Int} (ha : LateP a S L ca) (hb : LateP b S L cb) (hc : ¬ ole ca cb) (d : Nat) : ∃ t, ¬ ole (a t) (b (t + d)) := by
  obtain ⟨t, y, h1, h2⟩ := fast_back ha hb hc d 0
  exact ⟨t, by rw [h1]; simpa using h2⟩

/-- What a search through N ticks finds: the greatest of the distances, first at the tick k. -/
def Most (D : Nat → Int) (N : Nat) (m : Int) (k : Nat) : Prop :=
  0 ≤ m ∧ (∀ t, t < N → ¬ D t = infV ∧ D t ≤ m) ∧ ((m = 0 ∧ k = 0) ∨ (0 < m ∧ k < N ∧ D k = m ∧ ∀ t, t < k → D t < m))
theorem most_zero (D : Nat → Int) : Most D 0 0 0 := ⟨Int.le_refl _, fun t ht => absurd ht (Nat.not_lt_zero _), .inl ⟨rfl, rfl⟩⟩
theorem Most.more {D : Nat → Int} {N k : Nat} {m : Int} (h : Most D N m k) (h1 : ¬ D N = infV) (h2 : m < D N) : Most D (N + 1) (D N) N := by
  obtain ⟨h0, hm, _⟩ := h
  refine ⟨by omega, fun t ht => ?_, .inr ⟨by omega, by omega, rfl, fun t ht => by have := (hm t ht).2; omega⟩⟩
  by_cases e : t = N
  · subst e; exact ⟨h1, Int.le_refl _⟩
  · have := hm t (by omega); exact ⟨this.1, by omega⟩
theorem Most.same {D : Nat → Int} {N k : Nat} {m : Int} (h : Most D N m k) (h1 : ¬ D N = infV) (h2 : ¬ m < D N) : Most D (N + 1) m k := by
  obtain ⟨h0, hm, hk⟩ := h
  refine ⟨h0, fun t ht => ?_, ?_⟩
  · by_cases e : t = N
    · subst e; exact ⟨h1, by omega⟩
    · exact hm t (by omega)
  · rcases hk with hk | ⟨a1, a2, a3, a4⟩
    · exact .inl hk
    · exact .inr ⟨a1, by omega, a3, a4⟩
/-- The result of a search: infinite, if a grows faster or a distance is. -/
def GreatP (fast : Prop) (D : Nat → Int) (N : Nat) (i : Bool) (m : Int) (k : Nat) : Prop :=
  (i = true ∧ m = 0 ∧ k = 0 ∧ (fast ∨ ∃ t, t < N ∧ D t = infV)) ∨ (i = false ∧ ¬ fast ∧ Most D N m k)

/-- The first tick at which b is at least v. -/
def FirstP (b : Nat → Option Int) (v : Option Int) (ok : Bool) (x : Nat) : Prop :=
  (ok = true ∧ ole v (b x) ∧ ∀ y, y < x → ¬ ole v (b y)) ∨ (ok = false ∧ x = 0 ∧ ∀ y, ¬ ole v (b y))
theorem FirstP.unique {v : Option Int} {o o' : Bool} {x x' : Nat} (h : FirstP b v o x) (h' : FirstP b v o' x') : o = o' ∧ x = x' := by
  rcases h with ⟨rfl, h1, h2⟩ | ⟨rfl, rfl, h1⟩ <;> rcases h' with ⟨rfl, h1', h2'⟩ | ⟨rfl, rfl, h1'⟩
  · exact ⟨rfl, Nat.le_antisymm (Nat.not_lt.1 fun h => h2 _ h h1') (Nat.not_lt.1 fun h => h2' _ h h1)⟩
  · exact absurd h1 (h1' _)
  · exact absurd h1' (h1 _)
  · exact ⟨rfl, rfl⟩
/-- The distance of the delay at the tick t. -/
def WaitAt (a b : Nat → Option Int) (D : Nat → Int) (t : Nat) : Prop :=
  ∃ o x, FirstP b (a t) o x ∧ D t = if o = true then (x : Int) - (t : Int) else infV
theorem great_delay {S L N : Nat} {ca cb : Option Int} (hL : 1 ≤ L) (hb : Up b) (la : LateP a S L ca) (lb : LateP b S L cb) (hN : S + L ≤ N) {D : Nat → Int} (hD : ∀ t, t < N → WaitAt a b D t) (hx : ∀ t x, t < N → FirstP b (a t) true x → (x : Int) < infV) {i : Bool} {m : Int} {k : Nat} {fast : Prop} (hf : fast ↔ ¬ ole ca cb) (h : GreatP fast D N i m k) :
    ∃ n : Nat, m = n ∧ DelayP a b i n k := by
  rcases h with ⟨rfl, rfl, rfl, h⟩ | ⟨rfl, hnf, h0, hm, hk⟩
  · refine ⟨0, rfl, .inl ⟨rfl, rfl, rfl, fun d => ?_⟩⟩
    rcases h with h | ⟨t, ht, hi⟩
    · exact fast_delay la lb (hf.1 h) d
    · obtain ⟨o, x, hF, hd⟩ := hD t ht
      have hF' := hF
      rcases hF with ⟨rfl, h1, h2⟩ | ⟨rfl, rfl, h1⟩
      · have := hx t x ht hF'
        rw [if_pos rfl] at hd
        omega
      · exact ⟨t, h1 (t + d)⟩
  · have hc : ole ca cb := by
      rcases ole_total ca cb with h | h
      · exact h
      · exact Classical.byContradiction fun hn => hnf (hf.2 hn)
    obtain ⟨n, rfl⟩ : ∃ n : Nat, m = n := ⟨m.toNat, by omega⟩
    have up : ∀ n : Int, ∀ t, t < N → ¬ D t = infV → D t ≤ n → 0 ≤ n → ole (a t) (b (t + n.toNat)) := by
      intro n t ht h1 h2 h3
      obtain ⟨o, x, hF, hd⟩ := hD t ht
      rcases hF with ⟨rfl, h4, h5⟩ | ⟨rfl, rfl, h4⟩
      · rw [if_pos rfl] at hd
        exact ole_trans h4 (hb.le (by omega))
      · rw [if_neg (by simp)] at hd; exact absurd hd h1
    refine ⟨n, rfl, .inr ⟨rfl, ?_, ?_⟩⟩
    · refine late_delay hL la lb hc fun t ht => ?_
      have := up n t (by omega) (hm t (by omega)).1 (hm t (by omega)).2 (by omega)
      simpa using this
    · rcases hk with ⟨h1, h2⟩ | ⟨h1, h2, h3, h4⟩
      · exact .inl ⟨by omega, h2⟩
      · refine .inr ⟨by omega, ?_, fun t ht => ?_⟩
        · obtain ⟨o, x, hF, hd⟩ := hD k h2
          rcases hF with ⟨rfl, h5, h6⟩ | ⟨rfl, rfl, h5⟩
          · rw [if_pos rfl] at hd
            exact h6 _ (by omega)
          · rw [if_neg (by simp)] at hd; exact absurd hd (hm k h2).1
        · have h5 := up (n - 1) t (by omega) (hm t (by omega)).1 (by have := h4 t ht; omega) (by omega)
          rwa [show ((n : Int) - 1).toNat = n - 1 by omega] at h5
end

section
variable {zs ys : List Int} {p q : Nat} {inc jnc : Int}
theorem up_eC (g : Good zs p inc) : Up (eC zs p inc) := fun t k => eC_monoK g t k

/-- By how much a curve grows in L ticks; none: it is infinite. -/
noncomputable def growO (zs : List Int) (p : Nat) (inc : Int) (L : Nat) : Option Int :=
  open Classical in if InfC zs then none else some (((L / p : Nat) : Int) * inc)
theorem late_of (g : Good zs p inc) {L : Nat} (hL : L / p * p = L) : LateP (eC zs p inc) (zs.length - p) L (growO zs p inc L) := by
  by_cases hi : InfC zs
  · refine .inl ⟨by unfold growO; rw [if_pos hi], fun t ht => ?_⟩
    have hp := (g.tailI hi).1
    exact eC_late g hi (by omega)
  · refine .inr ⟨_, by unfold growO; rw [if_neg hi], fun t ht => ⟨atC zs p inc t, eC_fin hi _ _ _, ?_⟩⟩
    rw [eC_fin hi]
    have := ((g.per hi).mul (L / p)) t ht
    rw [hL] at this
    rw [this]
theorem grow_iff (g : Good zs p inc) (k : Good ys q jnc) {L : Nat} (hL : L ≤ 120) : growI ys q jnc L < growI zs p inc L ↔ ¬ ole (growO zs p inc L) (growO ys q jnc L) := by
  by_cases i : InfC zs <;> by_cases j : InfC ys
  · rw [growI_inf i, growI_inf j]; unfold growO; rw [if_pos i, if_pos j]
    exact ⟨fun h => absurd h (Int.lt_irrefl _), fun h => absurd (ole_refl _) h⟩
  · rw [growI_inf i, growI_fin j]; unfold growO; rw [if_pos i, if_neg j]
    have := (fin_low k j hL).1
    exact ⟨fun _ => not_none_le, fun _ => by unfold infV; omega⟩
  · rw [growI_fin i, growI_inf j]; unfold growO; rw [if_neg i, if_pos j]
    have := (fin_low g i hL).1
    exact ⟨fun h => by unfold infV at h; omega, fun h => absurd (ole_none _) h⟩
  · rw [growI_fin i, growI_fin j]; unfold growO; rw [if_neg i, if_neg j, ole_some_iff]
    omega

/-- The first tick within the Values. -/
theorem first_head (g : Good zs p inc) {V : Option Int} (hV : ∀ v, V = some v → v < infV) {c : Nat} (hc : c < zs.length) (h1 : enc V ≤ zs.getD c 0) (h2 : ∀ j, j < c → zs.getD j 0 < enc V) : FirstP (eC zs p inc) V true c := by
  have hVi : enc V ≤ infV := by
    cases V with
    | none => exact Int.le_refl _
    | some v => have := hV v rfl; show v ≤ infV; omega
  refine .inl ⟨rfl, ?_, fun y hy => ?_⟩
  · rcases eC_cases g (t := c) (by have := g.few; omega) with ⟨h, _⟩ | ⟨x, h, hx, _, hb⟩
    · rw [h]; exact ole_none _
    · rw [h]
      rw [atC_lt hc] at hx
      refine ole_of_enc (fun y hy => ?_) (by show enc V ≤ x; omega)
      cases hy
      have := g.few
      unfold infV; omega
  · have h3 := h2 y hy
    intro h
    have e : eC zs p inc y = some (zs.getD y 0) := by
      rcases eC_cases g (t := y) (by have := g.few; omega) with ⟨h, h4⟩ | ⟨x, h, hx, _⟩
      · rw [atC_lt (by omega)] at h4; omega
      · rw [h, ← hx, atC_lt (by omega)]
    rw [e] at h
    obtain ⟨x, hx, hl⟩ := h _ rfl
    subst hx
    have : enc (some x) = x := rfl
    omega
theorem flat_tail (g : Good zs p inc) (hf : ¬ InfC zs) (h0 : inc = 0) (y : Nat) : atC zs p inc y ≤ zs.getD (zs.length - 1) 0 := by
  have h1 := g.p1; have h3 := g.p3
  by_cases hy : y < zs.length
  · rw [atC_lt hy]; exact g.le (by omega) (by omega)
  · rw [atC_ge hf (by omega), h0]
    obtain ⟨_, _, h⟩ := idx_facts h1 h3 (show zs.length ≤ y by omega)
    have := g.le (show y - ((y - zs.length) / p + 1) * p ≤ zs.length - 1 by omega) (by omega)
    simp only [Int.mul_zero]; omega
/-- There is none: the curve is finite, and the value infinite, or the curve does not grow. -/
theorem first_none (g : Good zs p inc) {V : Option Int} (hV : ∀ v, V = some v → v < infV) (h : zs.getD (zs.length - 1) 0 < enc V) (h2 : V = none ∨ inc = 0) : FirstP (eC zs p inc) V false 0 := by
  have hVi : enc V ≤ infV := by
    cases V with
    | none => exact Int.le_refl _
    | some v => have := hV v rfl; show v ≤ infV; omega
  have hf : ¬ InfC zs := fun hi => by have : zs.getD (zs.length - 1) 0 = infV := hi; omega
  refine .inr ⟨rfl, rfl, fun y hy => ?_⟩
  rw [eC_fin hf] at hy
  rcases h2 with rfl | h2
  · exact not_none_le hy
  · obtain ⟨x, hx, hl⟩ := hy _ rfl
    subst hx
    have := flat_tail g hf h2 y
    have : enc (some x) = x := rfl
    omega
/-- The first tick behind the Values. -/
theorem first_tail (g : Good zs p inc) {v : Int} (hf : ¬ InfC zs) {k c : Nat} (hk : 1 ≤ k) (h1 : zs.getD (zs.length - 1) 0 + ((k : Int) - 1) * inc < v) (hc : c < p) (h3 : v - (k : Int) * inc ≤ zs.getD (zs.length - p + c) 0) (h4 : ∀ j, j < c → zs.getD (zs.length - p + j) 0 < v - (k : Int) * inc) :
    FirstP (eC zs p inc) (some v) true (zs.length - p + c + k * p) := by
  have g1 := g.p1; have g3 := g.p3
  have per := fun t (ht : zs.length - p ≤ t) (k : Nat) => (g.per hf).mul k t ht
  refine .inl ⟨rfl, ?_, fun y hy => ?_⟩
  · rw [eC_fin hf, per _ (by omega), atC_lt (by omega)]
    exact ole_some (by omega)
  · rw [eC_fin hf, ole_some_iff]
    have hup : atC zs p inc y ≤ atC zs p inc (zs.length - p + c + k * p - 1) := by
      have := g.up (zs.length - p + c + k * p - 1 - y) y
      rwa [show y + (zs.length - p + c + k * p - 1 - y) = zs.length - p + c + k * p - 1 by omega] at this
    by_cases hc0 : c = 0
    · subst hc0
      obtain ⟨k', rfl⟩ : ∃ k', k = k' + 1 := ⟨k - 1, by omega⟩
      have e : zs.length - p + 0 + (k' + 1) * p - 1 = (zs.length - 1) + k' * p := by rw [Nat.add_mul]; omega
      have q2 : atC zs p inc (zs.length - 1) = zs.getD (zs.length - 1) 0 := atC_lt (by omega)
      rw [e, per _ (by omega), q2] at hup
      have : ((k' + 1 : Nat) : Int) - 1 = (k' : Int) := by omega
      rw [this] at h1
      omega
    · have e : zs.length - p + c + k * p - 1 = (zs.length - p + (c - 1)) + k * p := by omega
      have q2 : atC zs p inc (zs.length - p + (c - 1)) = zs.getD (zs.length - p + (c - 1)) 0 := atC_lt (by omega)
      rw [e, per _ (by omega), q2] at hup
      have := h4 (c - 1) (by omega)
      omega
end

section
variable {a b : Nat → Option Int}
theorem first_ex (b : Nat → Option Int) (v : Option Int) : ∃ o x, FirstP b v o x := by
  by_cases h : ∃ x, ole v (b x)
  · obtain ⟨x, hx⟩ := h
    have low : ∀ x, ole v (b x) → ∃ y, ole v (b y) ∧ ∀ z, z < y → ¬ ole v (b z) := by
      intro x
      induction x using Nat.strongRecOn with
      | ind x ih =>
        intro hx
        by_cases hl : ∃ m, m < x ∧ ole v (b m)
        · obtain ⟨m, hm, hq⟩ := hl
          exact ih m hm hq
        · exact ⟨x, hx, fun m hm hq => hl ⟨m, hm, hq⟩⟩
    obtain ⟨y, h1, h2⟩ := low x hx
    exact ⟨true, y, .inl ⟨rfl, h1, h2⟩⟩
  · exact ⟨false, 0, .inr ⟨rfl, rfl, fun y hy => h ⟨y, hy⟩⟩⟩
/-- The wait at a tick, as a number: infV if there is none. -/
noncomputable def waitI (a b : Nat → Option Int) (t : Nat) : Int :=
  if Classical.choose (first_ex b (a t)) = true then ((Classical.choose (Classical.choose_spec (first_ex b (a t))) : Nat) : Int) - (t : Int) else infV
theorem waitI_eq {t : Nat} {o : Bool} {x : Nat} (h : FirstP b (a t) o x) : waitI a b t = if o = true then (x : Int) - (t : Int) else infV := by
  obtain ⟨e1, e2⟩ := h.unique (Classical.choose_spec (Classical.choose_spec (first_ex b (a t))))
  subst e1 e2
  rfl
theorem waitI_at (t : Nat) : WaitAt a b (waitI a b) t := by
  obtain ⟨o, x, h⟩ := first_ex b (a t)
  exact ⟨o, x, h, waitI_eq h⟩
end

section
variable {zs ys : List Int} {p q : Nat} {inc jnc : Int}
/-- A value that can be asked for. -/
def Asks (V : Option Int) : Prop := ∀ v, V = some v → 0 ≤ v ∧ v ≤ 1125899906842624
theorem FirstP.least {b : Nat → Option Int} {V : Option Int} {x y : Nat} (h : FirstP b V true x) (hy : ole V (b y)) : x ≤ y := by
  rcases h with ⟨_, _, h⟩ | ⟨e, _⟩
  · exact Nat.not_lt.1 fun hl => h y hl hy
  · cases e
theorem first_bd (g : Good zs p inc) {V : Option Int} (hV : Asks V) {x : Nat} (h : FirstP (eC zs p inc) V true x) : (x : Int) ≤ 144115188075855872 := by
  have h1 := g.p1; have h2 := g.p2; have h3 := g.p3; have hfw := g.few
  by_cases hi : InfC zs
  · have := h.least (y := zs.length - 1) (by rw [eC_late g hi (Nat.le_refl _)]; exact ole_none _)
    omega
  · cases V with
    | none =>
      rcases h with ⟨_, h, _⟩ | ⟨e, _⟩
      · rw [eC_fin hi] at h; exact absurd h not_none_le
      · cases e
    | some v =>
      obtain ⟨hv0, hv1⟩ := hV v rfl
      by_cases h0 : inc = 0
      · rcases id h with ⟨_, h4, _⟩ | ⟨e, _⟩
        · rw [eC_fin hi, ole_some_iff] at h4
          have h5 := flat_tail g hi h0 x
          have := h.least (y := zs.length - 1) (by rw [eC_fin hi, ole_some_iff, atC_lt (by omega)]; omega)
          omega
        · cases e
      · have h5 := (g.per hi).mul v.toNat (zs.length - 1) (by omega)
        have h6 := h.least (y := zs.length - 1 + v.toNat * p) (by
          have q2 : atC zs p inc (zs.length - 1) = zs.getD (zs.length - 1) 0 := atC_lt (by omega)
          have q3 := (g.small hi (show zs.length - 1 < zs.length by omega)).1
          have q4 : (v.toNat : Int) * 1 ≤ (v.toNat : Int) * inc := Int.mul_le_mul_of_nonneg_left (by have := g.i0; omega) (by omega)
          rw [eC_fin hi, ole_some_iff, h5, q2]
          omega)
        have h7 : v.toNat * p ≤ v.toNat * 120 := Nat.mul_le_mul_left _ h2
        omega
theorem asks_at (g : Good zs p inc) {t : Nat} (ht : t ≤ 1000) : Asks (eC zs p inc t) := fun v hv => by
  have := eC_bd g hv
  omega
theorem waitI_bd (g : Good zs p inc) (k : Good ys q jnc) {t : Nat} (ht : t ≤ 1000) : waitI (eC zs p inc) (eC ys q jnc) t = infV ∨ (-1000 ≤ waitI (eC zs p inc) (eC ys q jnc) t ∧ waitI (eC zs p inc) (eC ys q jnc) t ≤ 144115188075855872) := by
  obtain ⟨o, x, h⟩ := first_ex (eC ys q jnc) (eC zs p inc t)
  rw [waitI_eq h]
  cases o with
  | false => exact .inl (if_neg (by simp))
  | true =>
    have := first_bd k (asks_at g ht) h
    rw [if_pos rfl]
    exact .inr ⟨by omega, by omega⟩
theorem GreatP.bd {fast : Prop} {D : Nat → Int} {N : Nat} {i : Bool} {m : Int} {k : Nat} (h : GreatP fast D N i m k) {M : Int} (hM : 0 ≤ M) (hD : ∀ t, t < N → D t = infV ∨ D t ≤ M) : k ≤ N ∧ 0 ≤ m ∧ m ≤ M := by
  rcases h with ⟨_, rfl, rfl, _⟩ | ⟨_, _, h0, hm, h1⟩
  · exact ⟨Nat.zero_le _, Int.le_refl _, hM⟩
  · rcases h1 with ⟨rfl, rfl⟩ | ⟨h2, h3, h4, _⟩
    · exact ⟨Nat.zero_le _, Int.le_refl _, hM⟩
    · refine ⟨Nat.le_of_lt h3, h0, ?_⟩
      rcases hD k h3 with h5 | h5
      · exact absurd h5 (hm k h3).1
      · omega
/-- What the program hands back of a delay. -/
def DevD (a b : Nat → Option Int) (i : Bool) (m : Int) (k : Nat) : Prop := ∃ n : Nat, m = n ∧ DelayP a b i n k ∧ k ≤ 1000 ∧ m ≤ 144115188075855872
theorem DevD.unique {a b : Nat → Option Int} (hb : Up b) {i j : Bool} {m n : Int} {k l : Nat} (h : DevD a b i m k) (h' : DevD a b j n l) : i = j ∧ m = n ∧ k = l := by
  obtain ⟨x, rfl, h, _⟩ := h
  obtain ⟨y, rfl, h', _⟩ := h'
  obtain ⟨e1, rfl, e3⟩ := h.unique hb h'
  exact ⟨e1, rfl, e3⟩
theorem pair_S (g : Good zs p inc) (k : Good ys q jnc) {L : Nat} (m : Mult p q L) : LateP (eC zs p inc) (max (zs.length - p) (ys.length - q)) L (growO zs p inc L) ∧ LateP (eC ys q jnc) (max (zs.length - p) (ys.length - q)) L (growO ys q jnc L) :=
  ⟨(late_of g m.dp).mono (Nat.le_max_left _ _), (late_of k m.dq).mono (Nat.le_max_right _ _)⟩
/-- The search finds the delay. -/
theorem great_dev (g : Good zs p inc) (k : Good ys q jnc) {L N : Nat} (m : Mult p q L) (hL : L ≤ 120) (hN : max (zs.length - p) (ys.length - q) + L ≤ N) (hN2 : N ≤ 1000) {i : Bool} {v : Int} {t : Nat} (h : GreatP (growI ys q jnc L < growI zs p inc L) (waitI (eC zs p inc) (eC ys q jnc)) N i v t) : DevD (eC zs p inc) (eC ys q jnc) i v t := by
  obtain ⟨l1, l2⟩ := pair_S g k m
  have hb := h.bd (M := 144115188075855872) (by decide) fun t ht => (waitI_bd g k (show t ≤ 1000 by omega)).imp id fun h => h.2
  obtain ⟨n, hn, hd⟩ := great_delay m.one (up_eC k) l1 l2 hN (fun t _ => waitI_at t) (fun t x ht hx => by have := first_bd k (asks_at g (show t ≤ 1000 by omega)) hx; unfold infV; omega) (grow_iff g k hL) h
  exact ⟨n, hn, hd, by omega, hb.2.2⟩
end
end Go.Proofs.Ytjipmkgnndldpaa

namespace Go.Proofs.Ytjipmkgnndldpaa
open Go.RowKit
set_option linter.unusedSimpArgs false
set_option linter.unusedVariables false

theorem pace_up {rn rd ln ld : Nat} (t : Nat) : ∀ j, paceN rn rd ln ld t ≤ paceN rn rd ln ld (t + j)
  | 0 => Nat.le_refl _
  | j + 1 => Nat.le_trans (pace_up t j) (pace_step _)

/-- The chain of two small paces. -/
theorem chain_two {an ad kn kd bn bd ln ld : Nat} (h1 : okB an ad = true) (h2 : okB kn kd = true) (h3 : okB bn bd = true) (h4 : okB ln ld = true) (a0 : an ≤ 1000) (a2 : ad ≤ 20) (b0 : bn ≤ 1000) (b2 : bd ≤ 20) (k0 : kn ≤ 1000) (k2 : kd ≤ 20) (l0 : ln ≤ 1000) (l2 : ld ≤ 20) :
    ∃ mn md S T : Nat, chainA [⟨an, ad, kn, kd⟩, ⟨bn, bd, ln, ld⟩] = ⟨mn, md, S, T, 0⟩ ∧ okB mn md = true ∧ okB S T = true ∧ mn ≤ 1000 ∧ md ≤ 20 ∧ 1 ≤ md ∧ 1 ≤ T ∧ T ≤ kd * ld ∧ S ≤ kn * ld + ln * kd ∧ mn * ad ≤ an * md ∧ mn * bd ≤ bn * md ∧ (kn * ld + ln * kd) * T = S * (kd * ld) := by
  obtain ⟨S, T, he, ho, hx, ht1, ht2, hs⟩ := svadd_nat h2 h4 k2 l2 k0 l0
  have o1 := (okF_iff _ _).1 ((okB_iff _ _).1 h1).1
  have o3 := (okF_iff _ _).1 ((okB_iff _ _).1 h3).1
  have hb : badL [⟨an, ad, kn, kd⟩, ⟨bn, bd, ln, ld⟩] = false := by unfold badL; simp [Bkt.ok, h1, h2, h3, h4]
  have hl : chainA [⟨an, ad, kn, kd⟩, ⟨bn, bd, ln, ld⟩] = linkA ⟨an, ad, kn, kd, 0⟩ ⟨bn, bd, ln, ld⟩ := by
    rw [chainA_fold (by simp) hb]; rfl
  obtain ⟨s1, s2, s3⟩ := compareF_sign bn bd an ad ((okB_iff _ _).1 h3).1 ((okB_iff _ _).1 h1).1
  have c1 : ((bn * ad : Nat) : Int) = (bn : Int) * (ad : Int) := Int.natCast_mul _ _
  have c2 : ((an * bd : Nat) : Int) = (an : Int) * (bd : Int) := Int.natCast_mul _ _
  rw [hl]
  unfold linkA
  dsimp only
  rw [he]
  dsimp only
  rw [if_pos rfl]
  by_cases hc : compareF bn bd an ad < 0
  · rw [if_pos hc]
    have : bn * ad < an * bd := by
      refine Nat.lt_of_not_le fun hle => ?_
      have hle' : (an : Int) * (bd : Int) ≤ (bn : Int) * (ad : Int) := by omega
      rcases Int.lt_or_eq_of_le hle' with h | h
      · have := s3 h; omega
      · have := s2 h.symm; omega
    exact ⟨bn, bd, S, T, rfl, h3, ho, b0, b2, by omega, ht1, ht2, hs, by omega, Nat.le_refl _, hx.symm⟩
  · rw [if_neg hc]
    have : an * bd ≤ bn * ad := by
      refine Nat.le_of_not_lt fun hlt => hc ?_
      have hlt' : (bn : Int) * (ad : Int) < (an : Int) * (bd : Int) := by omega
      have := s1 hlt'; omega
    exact ⟨an, ad, S, T, rfl, h1, ho, a0, a2, by omega, ht1, ht2, hs, Nat.le_refl _, by omega, hx.symm⟩

/-- The convolution of two paces is at least the pace of their chain. -/
theorem chain_conv {an ad kn kd bn bd ln ld mn md S T : Nat} {zf zg : List Int} {pf pg : Nat} {jf jg : Int} (hf : EForm zf pf jf (paceE an ad kn kd)) (hg : EForm zg pg jg (paceE bn bd ln ld))
    (had : 1 ≤ ad) (hkd : 1 ≤ kd) (hbd : 1 ≤ bd) (hld : 1 ≤ ld) (hmd : 1 ≤ md) (hT : 1 ≤ T) (h1 : mn * ad ≤ an * md) (h2 : mn * bd ≤ bn * md) (hc : (kn * ld + ln * kd) * T = S * (kd * ld)) (t : Nat) : ole (paceE mn md S T t) (eConv zf pf jf zg pg jg t) := by
  unfold eConv
  refine oconv_great fun s hs => ?_
  rw [hf.val, hg.val]
  show ole (some _) (some _)
  refine ole_some ?_
  have := pace_chain (s := s) (t := t - s) had hkd hbd hld hmd hT h1 h2 hc
  rw [show s + (t - s) = t by omega] at this
  unfold paceF
  omega

/-- The wait of a small bucket at a pace that is fast enough. -/
theorem wait_nat {bn bd an ad rn rd ln ld : Nat} (h1 : okB bn bd = true) (h2 : okB an ad = true) (h3 : okB rn rd = true) (h4 : okB ln ld = true) (b0 : bn ≤ 200) (b2 : bd ≤ 5) (r0 : rn ≤ 30) (r2 : rd ≤ 5) (l0 : ln ≤ 60) (l2 : ld ≤ 5) :
    (waitA bn bd an ad rn rd ln ld = (0, 0, 5) ∧ (rn = 0 ∨ 0 < compareF an ad rn rd)) ∨
    (1 ≤ rn ∧ an * rd ≤ rn * ad ∧ ∃ zn zd : Nat, waitA bn bd an ad rn rd ln ld = ((zn : Int), (zd : Int), 0) ∧ okB zn zd = true ∧ zn ≤ 100000 ∧ ln * (bd * rn) + bn * rd * ld ≤ (upN zn zd + 1) * (ld * (bd * rn))) := by
  have k1 := ((okB_iff _ _).1 h1).1
  have k2 := ((okB_iff _ _).1 h2).1
  have k3 := ((okB_iff _ _).1 h3).1
  have k4 := ((okB_iff _ _).1 h4).1
  have o1 := (okF_iff _ _).1 k1
  have o3 := (okF_iff _ _).1 k3
  have o4 := (okF_iff _ _).1 k4
  unfold waitA
  rw [if_pos (by rw [h1, h2, h3, h4]; rfl)]
  by_cases hn : (rn : Int) = 0 ∨ 0 < compareF an ad rn rd
  · rw [if_pos hn]
    exact .inl ⟨rfl, hn.imp (fun h => by omega) id⟩
  · rw [if_neg hn]
    have hr : 1 ≤ rn := Nat.pos_of_ne_zero fun h => hn (.inl (by omega))
    have hcp : an * rd ≤ rn * ad := by
      refine Nat.le_of_not_lt fun hlt => hn (.inr ?_)
      obtain ⟨_, _, s3⟩ := compareF_sign an ad rn rd k2 k3
      have c1 : ((rn * ad : Nat) : Int) = (rn : Int) * (ad : Int) := Int.natCast_mul _ _
      have c2 : ((an * rd : Nat) : Int) = (an : Int) * (rd : Int) := Int.natCast_mul _ _
      have := s3 (by omega)
      omega
    refine .inr ⟨hr, hcp, ?_⟩
    have e1 : bn * rd ≤ 200 * 5 := Nat.mul_le_mul b0 r2
    have e2 : bd * rn ≤ 5 * 30 := Nat.mul_le_mul b2 r0
    have e3 : 1 ≤ bd * rn := Nat.mul_pos (by omega) hr
    obtain ⟨xn, xd, hx, hox, hxx, hx1, hx2, hx3⟩ := svnew_nat (N := bn * rd) (D := bd * rn) e3 (by omega) (by omega)
    have hxF : divF bn bd rn rd = ((xn : Int), (xd : Int), 0) := by
      unfold divF
      rw [if_pos (by rw [k1, k3]; rfl), ← hx]
      congr 1 <;> simp
    have e4 : xn * ld ≤ 1000 * 5 := Nat.mul_le_mul (by omega) l2
    have e5 : ln * xd ≤ 60 * 150 := Nat.mul_le_mul l0 (by omega)
    have e6 : xd * ld ≤ 150 * 5 := Nat.mul_le_mul (by omega) l2
    have e7 : 1 ≤ xd * ld := Nat.mul_pos hx1 (by omega)
    obtain ⟨yn, yd, hy, hoy, hyy, hy1, hy2, hy3⟩ := svnew_nat (N := xn * ld + ln * xd) (D := xd * ld) e7 (by omega) (by omega)
    have hyF : addF xn xd ln ld = ((yn : Int), (yd : Int), 0) := by
      unfold addF
      rw [if_pos (by rw [((okB_iff _ _).1 hox).1, k4]; rfl), ← hy]
      congr 1 <;> simp
    obtain ⟨sn, sd, he, hok, hz, hneg, hzero, hle, hde⟩ := newF_small ((yn : Int) - yd) yd (by omega) (by omega) (by omega)
    have hzF : subF yn yd 1 1 = (sn, sd, 0) := by
      unfold subF
      rw [if_pos (by rw [((okB_iff _ _).1 hoy).1]; decide), ← he]
      congr 1 <;> simp
    have hos := (okF_iff _ _).1 hok
    have hws : waitS bn bd rn rd ln ld = if (0 : Int) = 0 ∧ sn < 0 then (0, 1, 0) else (sn, sd, 0) := by
      unfold waitS
      rw [hxF]
      dsimp only
      rw [if_pos rfl, hyF]
      dsimp only
      rw [if_pos rfl, hzF]
    rw [hws]
    -- what is to be shown of the wait: yn is at most (D + 1) yd
    have fin : ∀ D, yn ≤ (D + 1) * yd → ln * (bd * rn) + bn * rd * ld ≤ (D + 1) * (ld * (bd * rn)) := fun D hD => by
      have f1 : (xn * ld + ln * xd) * yd ≤ (D + 1) * yd * (xd * ld) := by rw [← hyy]; exact Nat.mul_le_mul_right _ hD
      have f2 : xn * ld + ln * xd ≤ (D + 1) * (xd * ld) := Nat.le_of_mul_le_mul_right (a := xn * ld + ln * xd) (b := (D + 1) * (xd * ld)) (c := yd) (by rw [show (D + 1) * (xd * ld) * yd = (D + 1) * yd * (xd * ld) by grind]; exact f1) hy1
      have f3 : (xn * ld + ln * xd) * (bd * rn) ≤ (D + 1) * (xd * ld) * (bd * rn) := Nat.mul_le_mul_right _ f2
      have f4 : (ln * (bd * rn) + bn * rd * ld) * xd = (xn * ld + ln * xd) * (bd * rn) := by
        have : xn * (bd * rn) * ld = bn * rd * xd * ld := by rw [hxx]
        grind
      refine Nat.le_of_mul_le_mul_right (c := xd) ?_ hx1
      rw [f4, show (D + 1) * (ld * (bd * rn)) * xd = (D + 1) * (xd * ld) * (bd * rn) by grind]
      exact f3
    by_cases hs : sn < 0
    · rw [if_pos ⟨rfl, hs⟩]
      refine ⟨0, 1, rfl, by decide, by omega, fin _ ?_⟩
      have := hneg.1 hs
      rw [up_self]; omega
    · rw [if_neg (fun h => hs h.2)]
      obtain ⟨zn, rfl⟩ := Int.eq_ofNat_of_zero_le (show 0 ≤ sn by omega)
      obtain ⟨zd, rfl⟩ := Int.eq_ofNat_of_zero_le (show 0 ≤ sd by omega)
      refine ⟨zn, zd, rfl, (okB_iff _ _).2 ⟨hok, by omega⟩, by omega, fin _ ?_⟩
      have hzd : 1 ≤ zd := by omega
      have g1 := (up_le (n := zn) hzd (upN zn zd)).1 (Nat.le_refl _)
      -- zn yd = (yn - yd) zd
      have g2 : yn * zd = (zn + zd) * yd := by
        have : ((yn * zd : Nat) : Int) = (((zn + zd) * yd : Nat) : Int) := by
          rw [Int.natCast_mul, Int.natCast_mul, Int.natCast_add]
          grind
        exact Int.ofNat.inj this
      refine Nat.le_of_mul_le_mul_right (c := zd) ?_ hzd
      rw [g2, show (upN zn zd + 1) * yd * zd = (upN zn zd * zd + zd) * yd by grind]
      exact Nat.mul_le_mul_right _ (by omega)

/-- A delay that is enough bounds the delay. -/
theorem dev_most {a : Nat → Option Int} {rn rd ln ld : Nat} {i : Bool} {m : Int} {k : Nat} (h : DevD a (paceE rn rd ln ld) i m k) {D : Nat} (hD : ∀ t, ole (a t) (paceE rn rd ln ld (t + D))) : i = false ∧ m ≤ D := by
  obtain ⟨n, rfl, h, _⟩ := h
  rcases h with ⟨_, _, _, hx⟩ | ⟨hi, _, h0 | ⟨h1, hk, _⟩⟩
  · obtain ⟨t, ht⟩ := hx D
    exact absurd (hD t) ht
  · exact ⟨hi, by omega⟩
  · refine ⟨hi, ?_⟩
    by_cases hle : n ≤ D
    · omega
    · refine absurd (ole_trans (hD k) (ole_some ?_)) hk
      have := pace_up (rn := rn) (rd := rd) (ln := ln) (ld := ld) (k + D) (n - 1 - D)
      rw [show k + D + (n - 1 - D) = k + (n - 1) by omega] at this
      unfold paceF
      omega

theorem svrow_two (w : World) (b c : Bkt) (t : TypeId) : RowB (w.alloc (.cells #[.int .i64 b.bn, .int .i64 b.bd, .int .i64 b.rn, .int .i64 b.rd, .int .i64 c.bn, .int .i64 c.bd, .int .i64 c.rn, .int .i64 c.rd] t)) w.heap.size 0 [b, c] := fun i d hc => by
  rcases i with _ | _ | i
  · cases hc; exact ⟨by go_simp, by go_simp, by go_simp, by go_simp⟩
  · cases hc; exact ⟨by go_simp, by go_simp, by go_simp, by go_simp⟩
  · simp at hc
theorem svrow_three (w : World) (b c d : Bkt) (t : TypeId) : RowB (w.alloc (.cells #[.int .i64 b.bn, .int .i64 b.bd, .int .i64 b.rn, .int .i64 b.rd, .int .i64 c.bn, .int .i64 c.bd, .int .i64 c.rn, .int .i64 c.rd, .int .i64 d.bn, .int .i64 d.bd, .int .i64 d.rn, .int .i64 d.rd] t)) w.heap.size 0 [b, c, d] := fun i x hc => by
  rcases i with _ | _ | _ | i
  · cases hc; exact ⟨by go_simp, by go_simp, by go_simp, by go_simp⟩
  · cases hc; exact ⟨by go_simp, by go_simp, by go_simp, by go_simp⟩
  · cases hc; exact ⟨by go_simp, by go_simp, by go_simp, by go_simp⟩
  · simp at hc

end Go.Proofs.Ytjipmkgnndldpaa
