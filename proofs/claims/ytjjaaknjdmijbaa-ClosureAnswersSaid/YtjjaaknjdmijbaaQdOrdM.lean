/- The mathematics of two curves that are compared at every tick. Nothing here speaks of the program. By the verifier's side. -/
import Derived.Test.YtjjaaknjdmijbaaQdCurMCurN
namespace Go.Proofs.Ytjjaaknjdmijbaa

/-- Exceeds: the first tick at which d is positive, or that there is none. -/
def ExcP (d : Nat → Int) (t : Int) (ok : Bool) : Prop :=
  (ok = true ∧ ∃ T : Nat, t = T ∧ 0 < d T ∧ ∀ u, u < T → d u ≤ 0) ∨ (ok = false ∧ t = 0 ∧ ∀ u, d u ≤ 0)
/-- Settles: the first tick from which on d is never positive, or that there is none. -/
def SetP (d : Nat → Int) (t : Int) (ok : Bool) : Prop :=
  (ok = true ∧ ∃ T : Nat, t = T ∧ (∀ u, T ≤ u → d u ≤ 0) ∧ (T = 0 ∨ 0 < d (T - 1))) ∨ (ok = false ∧ t = 0 ∧ ∀ T : Nat, ∃ u, T ≤ u ∧ 0 < d u)
/-- Meets: the first tick from which on d is 0, or that there is none. -/
def MeetP (d : Nat → Int) (t : Int) (ok : Bool) : Prop :=
  (ok = true ∧ ∃ T : Nat, t = T ∧ (∀ u, T ≤ u → d u = 0) ∧ (T = 0 ∨ ¬ d (T - 1) = 0)) ∨ (ok = false ∧ t = 0 ∧ ∀ T : Nat, ∃ u, T ≤ u ∧ ¬ d u = 0)

theorem ExcP.unique {d : Nat → Int} {t t' : Int} {ok ok' : Bool} (h : ExcP d t ok) (k : ExcP d t' ok') : t = t' ∧ ok = ok' := by
  rcases h with ⟨rfl, T, rfl, h1, h2⟩ | ⟨rfl, rfl, h1⟩ <;> rcases k with ⟨rfl, T', rfl, k1, k2⟩ | ⟨rfl, rfl, k1⟩
  · have : T = T' := by
      rcases Nat.lt_trichotomy T T' with hl | he | hl
      · have := k2 T hl; omega
      · exact he
      · have := h2 T' hl; omega
    exact ⟨by omega, rfl⟩
  · have := k1 T; omega
  · have := h1 T'; omega
  · exact ⟨rfl, rfl⟩

theorem SetP.unique {d : Nat → Int} {t t' : Int} {ok ok' : Bool} (h : SetP d t ok) (k : SetP d t' ok') : t = t' ∧ ok = ok' := by
  rcases h with ⟨rfl, T, rfl, h1, h2⟩ | ⟨rfl, rfl, h1⟩ <;> rcases k with ⟨rfl, T', rfl, k1, k2⟩ | ⟨rfl, rfl, k1⟩
  · have : T = T' := by
      rcases Nat.lt_trichotomy T T' with hl | he | hl
      · rcases k2 with k2 | k2
        · omega
        · have := h1 (T' - 1) (by omega); omega
      · exact he
      · rcases h2 with h2 | h2
        · omega
        · have := k1 (T - 1) (by omega); omega
    exact ⟨by omega, rfl⟩
  · obtain ⟨u, hu, hp⟩ := k1 T; have := h1 u hu; omega
  · obtain ⟨u, hu, hp⟩ := h1 T'; have := k1 u hu; omega
  · exact ⟨rfl, rfl⟩

theorem MeetP.unique {d : Nat → Int} {t t' : Int} {ok ok' : Bool} (h : MeetP d t ok) (k : MeetP d t' ok') : t = t' ∧ ok = ok' := by
  rcases h with ⟨rfl, T, rfl, h1, h2⟩ | ⟨rfl, rfl, h1⟩ <;> rcases k with ⟨rfl, T', rfl, k1, k2⟩ | ⟨rfl, rfl, k1⟩
  · have : T = T' := by
      rcases Nat.lt_trichotomy T T' with hl | he | hl
      · rcases k2 with k2 | k2
        · omega
        · exact absurd (h1 (T' - 1) (by omega)) k2
      · exact he
      · rcases h2 with h2 | h2
        · omega
        · exact absurd (k1 (T - 1) (by omega)) h2
    exact ⟨by omega, rfl⟩
  · obtain ⟨u, hu, hp⟩ := k1 T; exact absurd (h1 u hu) hp
  · obtain ⟨u, hu, hp⟩ := h1 T'; exact absurd (k1 u hu) hp
  · exact ⟨rfl, rfl⟩

/-- A tick behind the start, by its residue. -/
theorem tick_split {S L u : Nat} (hL : 1 ≤ L) (hu : S ≤ u) : ∃ r j, r < L ∧ u = S + r + j * L := by
  refine ⟨(u - S) % L, (u - S) / L, Nat.mod_lt _ hL, ?_⟩
  have := Nat.mod_add_div (u - S) L
  rw [Nat.mul_comm] at this
  omega

theorem Per.to {d : Nat → Int} {S L : Nat} {c : Int} (h : Per d S L c) (r j : Nat) : d (S + r + j * L) = d (S + r) + (j : Int) * c := h.mul j (S + r) (by omega)

theorem exc_none {d : Nat → Int} {S L : Nat} {c : Int} (hP : Per d S L c) (hL : 1 ≤ L) (hc : c ≤ 0) (h : ∀ u, u < S + L → d u ≤ 0) : ExcP d 0 false := by
  refine .inr ⟨rfl, rfl, fun u => ?_⟩
  by_cases hu : u < S
  · exact h u (by omega)
  · obtain ⟨r, j, hr, rfl⟩ := tick_split (S := S) hL (show S ≤ u by omega)
    rw [hP.to r j]
    have h1 := h (S + r) (by omega)
    have h2 : (j : Int) * c ≤ 0 := Int.mul_nonpos_of_nonneg_of_nonpos (by omega) hc
    omega

/-- After so many periods a difference that grows is positive for the first time. -/
theorem grow_first {x c : Int} (hx : x ≤ 0) (hc : 0 < c) : 0 ≤ -x / c ∧ 0 < x + (-x / c + 1) * c ∧ ∀ j : Int, 0 < x + j * c → -x / c + 1 ≤ j := by
  have h0 := Int.ediv_nonneg (show 0 ≤ -x by omega) (Int.le_of_lt hc)
  have h1 := Int.mul_ediv_add_emod (-x) c
  have h2 := Int.emod_nonneg (-x) (show c ≠ 0 by omega)
  have h3 := Int.emod_lt_of_pos (-x) hc
  refine ⟨h0, ?_, fun j hj => ?_⟩
  · rw [Int.add_mul, Int.mul_comm]; omega
  · have h4 : (-x / c) * c < j * c := by rw [Int.mul_comm]; omega
    have := Int.lt_of_mul_lt_mul_right h4 (Int.le_of_lt hc)
    omega

/-- The first tick of a residue class at which a growing difference is positive. -/
def farT (d : Nat → Int) (S L : Nat) (c : Int) (r : Nat) : Int := (S + r : Nat) + (-(d (S + r)) / c + 1) * (L : Int)

theorem exc_far {d : Nat → Int} {S L : Nat} {c : Int} (hP : Per d S L c) (hL : 1 ≤ L) (hc : 0 < c) (h : ∀ u, u < S + L → d u ≤ 0) (x : Int) (hmin : ∀ r, r < L → x ≤ farT d S L c r) (hat : ∃ r, r < L ∧ x = farT d S L c r) : ExcP d x true := by
  obtain ⟨r, hr, rfl⟩ := hat
  obtain ⟨g0, g1, g2⟩ := grow_first (h (S + r) (by omega)) hc
  obtain ⟨k, hk⟩ : ∃ k : Nat, -(d (S + r)) / c + 1 = k := ⟨(-(d (S + r)) / c + 1).toNat, by omega⟩
  have hT : farT d S L c r = ((S + r + k * L : Nat) : Int) := by unfold farT; rw [hk]; simp
  refine .inl ⟨rfl, S + r + k * L, hT, ?_, fun u hu => ?_⟩
  · rw [hP.to r k, ← hk]; exact g1
  · by_cases hlt : u < S + L
    · exact h u hlt
    · obtain ⟨s, j, hs, rfl⟩ := tick_split (S := S) hL (show S ≤ u by omega)
      refine Classical.byContradiction fun hn => ?_
      rw [hP.to s j] at hn
      obtain ⟨_, _, g3⟩ := grow_first (h (S + s) (by omega)) hc
      have g4 := g3 j (by omega)
      have g5 := hmin s hs
      rw [hT] at g5
      unfold farT at g5
      have g6 : (-(d (S + s)) / c + 1) * (L : Int) ≤ (j : Int) * L := Int.mul_le_mul_of_nonneg_right g4 (by omega)
      have g7 : ((j * L : Nat) : Int) = (j : Int) * L := by simp
      omega

/-- What the search from the start on has found after r residue classes: T is behind all positive ticks of these and of those before the start, and the last of them is there. -/
def SetI (d : Nat → Int) (S L r T : Nat) : Prop :=
  (∀ u, u < S → T ≤ u → d u ≤ 0) ∧ (∀ s j, s < r → T ≤ S + s + j * L → d (S + s + j * L) ≤ 0) ∧ (T = 0 ∨ 0 < d (T - 1))

theorem SetI.start {d : Nat → Int} {S L T : Nat} (h1 : ∀ u, u < S → T ≤ u → ¬ 0 < d u) (h2 : T = 0 ∨ 0 < d (T - 1)) : SetI d S L 0 T :=
  ⟨fun u hu ht => by have := h1 u hu ht; omega, fun s j hs => absurd hs (Nat.not_lt_zero _), h2⟩

theorem SetI.done {d : Nat → Int} {S L T : Nat} (hL : 1 ≤ L) (h : SetI d S L L T) : SetP d T true := by
  obtain ⟨h1, h2, h3⟩ := h
  refine .inl ⟨rfl, T, rfl, fun u hu => ?_, h3⟩
  by_cases hlt : u < S
  · exact h1 u hlt hu
  · obtain ⟨r, j, hr, rfl⟩ := tick_split (S := S) hL (show S ≤ u by omega)
    exact h2 r j hr hu

/-! ## Two curves -/

/-- A curve that is not finite. -/
def InfC (zs : List Int) : Prop := zs.getD (zs.length - 1) 0 = infV
theorem infC_iff (zs : List Int) : InfC zs ↔ zs.getD (zs.length - 1) 0 = infV := Iff.rfl

/-- How far the first curve is ahead; 1 or -1 if one of the values is infinite. -/
noncomputable def dC (zs : List Int) (p : Nat) (inc : Int) (ys : List Int) (q : Nat) (jnc : Int) (t : Nat) : Int :=
  open Classical in
  if InfC zs ∧ atC zs p inc t = infV then (if InfC ys ∧ atC ys q jnc t = infV then 0 else 1)
  else if InfC ys ∧ atC ys q jnc t = infV then -1 else atC zs p inc t - atC ys q jnc t

section
variable {zs ys : List Int} {p q : Nat} {inc jnc : Int}

/-- A value of an infinite curve is infinite or small. -/
theorem Good.inf_small (g : Good zs p inc) (hi : InfC zs) (t : Nat) : atC zs p inc t = infV ∨ (0 ≤ atC zs p inc t ∧ atC zs p inc t ≤ 1073741824) := by
  have h3 := g.p3; have h1 := g.p1
  by_cases ht : t < zs.length
  · rw [atC_lt ht]
    rcases g.val t ht with h | h
    · exact .inr h
    · exact .inl h
  · exact .inl (atC_inf hi (by omega) (by omega))

theorem Good.nonneg (g : Good zs p inc) (t : Nat) : 0 ≤ atC zs p inc t := by
  by_cases hi : InfC zs
  · rcases g.inf_small hi t with h | h
    · rw [h]; unfold infV; omega
    · exact h.1
  · exact (g.bd hi t).1

/-- At a tick up to MaxTime the values themselves tell. -/
theorem Good.seen (g : Good zs p inc) {t : Nat} (ht : t ≤ 1048576) : (InfC zs ∧ atC zs p inc t = infV) ∨ ((¬ (InfC zs ∧ atC zs p inc t = infV)) ∧ 0 ≤ atC zs p inc t ∧ atC zs p inc t ≤ 1073741824 * ((t : Int) + 1)) := by
  by_cases hi : InfC zs
  · rcases g.inf_small hi t with h | h
    · exact .inl ⟨hi, h⟩
    · refine .inr ⟨fun hx => ?_, h.1, by omega⟩
      have := hx.2; unfold infV at this; omega
  · exact .inr ⟨fun hx => hi hx.1, g.bd hi t⟩

theorem dC_fin (h1 : ¬ InfC zs) (h2 : ¬ InfC ys) (t : Nat) : dC zs p inc ys q jnc t = atC zs p inc t - atC ys q jnc t := by
  unfold dC; rw [if_neg (fun h => h1 h.1), if_neg (fun h => h2 h.1)]

theorem dC_low (h1 : ¬ InfC zs) {t : Nat} (h2 : InfC ys ∧ atC ys q jnc t = infV) : dC zs p inc ys q jnc t = -1 := by
  unfold dC; rw [if_neg (fun h => h1 h.1), if_pos h2]
theorem dC_high {t : Nat} (h1 : InfC zs ∧ atC zs p inc t = infV) (h2 : ¬ InfC ys) : dC zs p inc ys q jnc t = 1 := by
  unfold dC; rw [if_pos h1, if_neg (fun h => h2 h.1)]
theorem dC_both {t : Nat} (h1 : InfC zs ∧ atC zs p inc t = infV) (h2 : InfC ys ∧ atC ys q jnc t = infV) : dC zs p inc ys q jnc t = 0 := by
  unfold dC; rw [if_pos h1, if_pos h2]

theorem dC_sign (g : Good zs p inc) (k : Good ys q jnc) {t : Nat} (ht : t ≤ 1048576) :
    (0 < dC zs p inc ys q jnc t ↔ atC ys q jnc t < atC zs p inc t) ∧ (dC zs p inc ys q jnc t = 0 ↔ atC zs p inc t = atC ys q jnc t) := by
  unfold dC
  rcases g.seen ht with h1 | ⟨h1, h2, h3⟩ <;> rcases k.seen ht with k1 | ⟨k1, k2, k3⟩
  · rw [if_pos h1, if_pos k1, h1.2, k1.2]; simp
  · rw [if_pos h1, if_neg k1, h1.2]; unfold infV; constructor <;> constructor <;> intro <;> omega
  · rw [if_neg h1, if_pos k1, k1.2]; unfold infV; constructor <;> constructor <;> intro <;> omega
  · rw [if_neg h1, if_neg k1]; constructor <;> constructor <;> intro <;> omega

/-- What the program subtracts. -/
theorem dif_bd (g : Good zs p inc) (k : Good ys q jnc) {t : Nat} (ht : t ≤ 1048576) : -4611686018427387904 ≤ atC zs p inc t - atC ys q jnc t ∧ atC zs p inc t - atC ys q jnc t ≤ 4611686018427387904 := by
  rcases g.seen ht with h1 | ⟨h1, h2, h3⟩ <;> rcases k.seen ht with k1 | ⟨k1, k2, k3⟩
  · rw [h1.2, k1.2]; unfold infV; omega
  · rw [h1.2]; unfold infV; omega
  · rw [k1.2]; unfold infV; omega
  · omega

theorem at_bd (g : Good zs p inc) {t : Nat} (ht : t ≤ 1048576) : 0 ≤ atC zs p inc t ∧ atC zs p inc t ≤ 4611686018427387904 := by
  rcases g.seen ht with h1 | ⟨h1, h2, h3⟩
  · rw [h1.2]; unfold infV; omega
  · omega

/-- A multiple of both periods. -/
structure Lcm (p q L : Nat) : Prop where
  one : 1 ≤ L
  le : L ≤ p * q
  dp : L / p * p = L
  dq : L / q * q = L

theorem lcm_of (hp : 1 ≤ p) (hq : 1 ≤ q) {L : Nat} (h : p / Nat.gcd p q * q = L) : Lcm p q L := by
  have hg := Nat.gcd_pos_of_pos_left q (show 0 < p by omega)
  obtain ⟨x, hx⟩ := Nat.gcd_dvd_left p q
  obtain ⟨y, hy⟩ := Nat.gcd_dvd_right p q
  have e1 : p / Nat.gcd p q = x := by
    have : Nat.gcd p q * x / Nat.gcd p q = x := Nat.mul_div_cancel_left x hg
    rwa [← hx] at this
  rw [e1] at h
  have hLp : L = y * p := by
    rw [← h]
    have k1 : x * (Nat.gcd p q * y) = y * (Nat.gcd p q * x) := by rw [Nat.mul_left_comm, Nat.mul_left_comm y, Nat.mul_comm x y]
    rw [← hy, ← hx] at k1; exact k1
  have hx1 : 1 ≤ x := by
    rcases Nat.eq_zero_or_pos x with h0 | h0
    · rw [h0] at hx; omega
    · exact h0
  have hxp : x ≤ p := by rw [← e1]; exact Nat.div_le_self _ _
  refine ⟨?_, ?_, ?_, ?_⟩
  · rw [← h]; exact Nat.mul_pos hx1 hq
  · rw [← h]; exact Nat.mul_le_mul_right q hxp
  · rw [hLp, Nat.mul_div_cancel _ (by omega)]
  · rw [← h, Nat.mul_div_cancel _ (by omega)]

/-- The growth of the difference in a common period. -/
noncomputable def growC (zs : List Int) (p : Nat) (inc : Int) (ys : List Int) (q : Nat) (jnc : Int) (L : Nat) : Int :=
  open Classical in
  if (InfC zs ↔ InfC ys) then ((L / p : Nat) : Int) * inc - ((L / q : Nat) : Int) * jnc else 0

theorem growC_fin (h1 : ¬ InfC zs) (h2 : ¬ InfC ys) {L : Nat} : growC zs p inc ys q jnc L = ((L / p : Nat) : Int) * inc - ((L / q : Nat) : Int) * jnc := by
  unfold growC; rw [if_pos ⟨fun h => absurd h h1, fun h => absurd h h2⟩]
theorem growC_inf (g : Good zs p inc) (k : Good ys q jnc) (h : InfC zs ∨ InfC ys) {L : Nat} : growC zs p inc ys q jnc L = 0 := by
  unfold growC
  by_cases hi : (InfC zs ↔ InfC ys)
  · rw [if_pos hi]
    have h1 : InfC zs := h.elim id hi.2
    rw [(g.tailI h1).2, (k.tailI (hi.1 h1)).2]; simp
  · rw [if_neg hi]
theorem growC_ne (g : Good zs p inc) (k : Good ys q jnc) {L : Nat} (h : ¬ growC zs p inc ys q jnc L = 0) : ¬ InfC zs ∧ ¬ InfC ys :=
  ⟨fun hi => h (growC_inf g k (.inl hi)), fun hi => h (growC_inf g k (.inr hi))⟩

theorem dC_per (g : Good zs p inc) (k : Good ys q jnc) {L S : Nat} (hL : Lcm p q L) (h1 : zs.length - p ≤ S) (h2 : ys.length - q ≤ S) : Per (dC zs p inc ys q jnc) S L (growC zs p inc ys q jnc L) := by
  have hp1 := g.p1; have hp3 := g.p3; have hq1 := k.p1; have hq3 := k.p3
  by_cases hz : InfC zs
  · have ez : ∀ t, S ≤ t → InfC zs ∧ atC zs p inc t = infV := fun t ht => ⟨hz, atC_inf hz (by have := (g.tailI hz).1; omega) (by omega)⟩
    rw [growC_inf g k (.inl hz)]
    intro t ht
    have e1 := ez t ht
    have e2 := ez (t + L) (by omega)
    by_cases hy : InfC ys
    · have ey : ∀ t, S ≤ t → InfC ys ∧ atC ys q jnc t = infV := fun t ht => ⟨hy, atC_inf hy (by have := (k.tailI hy).1; omega) (by omega)⟩
      rw [dC_both e1 (ey t ht), dC_both e2 (ey (t + L) (by omega))]; simp
    · rw [dC_high e1 hy, dC_high e2 hy]; simp
  · by_cases hy : InfC ys
    · have ey : ∀ t, S ≤ t → InfC ys ∧ atC ys q jnc t = infV := fun t ht => ⟨hy, atC_inf hy (by have := (k.tailI hy).1; omega) (by omega)⟩
      rw [growC_inf g k (.inr hy)]
      intro t ht
      rw [dC_low hz (ey t ht), dC_low hz (ey (t + L) (by omega))]; simp
    · rw [growC_fin hz hy]
      intro t ht
      rw [dC_fin hz hy, dC_fin hz hy]
      have P1 := ((g.per hz).mul (L / p)).mono h1 t ht
      have P2 := ((k.per hy).mul (L / q)).mono h2 t ht
      rw [hL.dp] at P1
      rw [hL.dq] at P2
      omega

/-- All three answers exist, whatever the difference is. -/
theorem least_ex {P : Nat → Prop} (h : ∃ n, P n) : ∃ n, P n ∧ ∀ m, m < n → ¬ P m := by
  obtain ⟨n, hn⟩ := h
  induction n using Nat.strongRecOn with
  | ind n ih =>
    by_cases hx : ∃ m, m < n ∧ P m
    · obtain ⟨m, hm, hp⟩ := hx; exact ih m hm hp
    · exact ⟨n, hn, fun m hm hp => hx ⟨m, hm, hp⟩⟩

theorem excP_ex (d : Nat → Int) : ∃ t ok, ExcP d t ok := by
  by_cases h : ∃ n, 0 < d n
  · obtain ⟨n, hn, hm⟩ := least_ex h
    exact ⟨n, true, .inl ⟨rfl, n, rfl, hn, fun u hu => by have := hm u hu; omega⟩⟩
  · exact ⟨0, false, .inr ⟨rfl, rfl, fun u => by
      refine Classical.byContradiction fun hn => h ⟨u, by omega⟩⟩⟩
end
end Go.Proofs.Ytjjaaknjdmijbaa
