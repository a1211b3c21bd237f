/- The mathematics of two curves that are compared at every tick. Nothing here speaks of the program. By the verifier's side. -/
import Derived.Test.YthljhddnfflpjaaHCurMCurN
namespace Go.Proofs.Ythljhddnfflpjaa

/-- Exceeds: the first tick at which d is positive, or that there is none. -/
def ExcP (d : Nat → Int) (t : Int) (ok : Bool) : Prop :=
  (ok = true ∧ ∃ T : Nat, t = T ∧ 0 < d T ∧ ∀ u, u < T → d u ≤ 0) ∨ (ok = false ∧ t = 0 ∧ ∀ u, d u ≤ 0)
theorem ExcP.unique {d : Nat → Int} {t t' : Int} {ok ok' : Bool} (h : ExcP d t ok) (k : ExcP d t' ok') : t = t' ∧ ok = ok' := by
  rcases h with ⟨rfl, T, rfl, h1, h2⟩ | ⟨rfl, rfl, h1⟩ <;> rcases k with ⟨rfl, T', rfl, k1, k2⟩ | ⟨rfl, rfl, k1⟩
  · have : T = T' := by
      rcases Nat.lt_trichotomy T T' with hl | he | hl
      · have := k2 T hl; omega
      · exact he
      · have := h2 T' hl; omega
    exact ⟨by omega, rfl⟩
  · have := k1 T; omega
  · have := h1 T'; omega
  · exact ⟨rfl, rfl⟩

/-- A tick behind the start, by its residue. -/
theorem tick_split {S L u : Nat} (hL : 1 ≤ L) (hu : S ≤ u) : ∃ r j, r < L ∧ u = S + r + j * L := by
  refine ⟨(u - S) % L, (u - S) / L, Nat.mod_lt _ hL, ?_⟩
  have := Nat.mod_add_div (u - S) L
  rw [Nat.mul_comm] at this
  omega

theorem Per.to {d : Nat → Int} {S L : Nat} {c : Int} (h : Per d S L c) (r j : Nat) : d (S + r + j * L) = d (S + r) + (j : Int) * c := h.mul j (S + r) (by omega)

theorem exc_none {d : Nat → Int} {S L : Nat} {c : Int} (hP : Per d S L c) (hL : 1 ≤ L) (hc : c ≤ 0) (h : ∀ u, u < S + L → d u ≤ 0) : ExcP d 0 false := by
  refine .inr ⟨rfl, rfl, fun u => ?_⟩
  by_cases hu : u < S
  · exact h u (by omega)
  · obtain ⟨r, j, hr, rfl⟩ := tick_split (S := S) hL (show S ≤ u by omega)
    rw [hP.to r j]
    have h1 := h (S + r) (by omega)
    have h2 : (j : Int) * c ≤ 0 := Int.mul_nonpos_of_nonneg_of_nonpos (by omega) hc
    omega

/-- After so many periods a difference that grows is positive for the first time. -/
theorem grow_first {x c : Int} (hx : x ≤ 0) (hc : 0 < c) : 0 ≤ -x / c ∧ 0 < x + (-x / c + 1) * c ∧ ∀ j : Int, 0 < x + j * c → -x / c + 1 ≤ j := by
  have h0 := Int.ediv_nonneg (show 0 ≤ -x by omega) (Int.le_of_lt hc)
  have h1 := Int.mul_ediv_add_emod (-x) c
  have h2 := Int.emod_nonneg (-x) (show c ≠ 0 by omega)
  have h3 := Int.emod_lt_of_pos (-x) hc
  refine ⟨h0, ?_, fun j hj => ?_⟩
  · rw [Int.add_mul, Int.mul_comm]; omega
  · have h4 : (-x / c) * c < j * c := by rw [Int.mul_comm]; omega
    have := Int.lt_of_mul_lt_mul_right h4 (Int.le_of_lt hc)
    omega

/-- The first tick of a residue class at which a growing difference is positive. -/
def farT (d : Nat → Int) (S L : Nat) (c : Int) (r : Nat) : Int := (S + r : Nat) + (-(d (S + r)) / c + 1) * (L : Int)

theorem exc_far {d : Nat → Int} {S L : Nat} {c : Int} (hP : Per d S L c) (hL : 1 ≤ L) (hc : 0 < c) (h : ∀ u, u < S + L → d u ≤ 0) (x : Int) (hmin : ∀ r, r < L → x ≤ farT d S L c r) (hat : ∃ r, r < L ∧ x = farT d S L c r) : ExcP d x true := by
  obtain ⟨r, hr, rfl⟩ := hat
  obtain ⟨g0, g1, g2⟩ := grow_first (h (S + r) (by omega)) hc
  obtain ⟨k, hk⟩ : ∃ k : Nat, -(d (S + r)) / c + 1 = k := ⟨(-(d (S + r)) / c + 1).toNat, by omega⟩
  have hT : farT d S L c r = ((S + r + k * L : Nat) : Int) := by unfold farT; rw [hk]; simp
  refine .inl ⟨rfl, S + r + k * L, hT, ?_, fun u hu => ?_⟩
  · rw [hP.to r k, ← hk]; exact g1
  · by_cases hlt : u < S + L
    · exact h u hlt
    · obtain ⟨s, j, hs, rfl⟩ := tick_split (S := S) hL (show S ≤ u by omega)
      refine Classical.byContradiction fun hn => ?_
      rw [hP.to s j] at hn
      obtain ⟨_, _, g3⟩ := grow_first (h (S + s) (by omega)) hc
      have g4 := g3 j (by omega)
      have g5 := hmin s hs
      rw [hT] at g5
      unfold farT at g5
      have g6 : (-(d (S + s)) / c + 1) * (L : Int) ≤ (j : Int) * L := Int.mul_le_mul_of_nonneg_right g4 (by omega)
      have g7 : ((j * L : Nat) : Int) = (j : Int) * L := by simp
      omega

/-! ## Two curves -/

/-- A curve that is not finite. -/
def InfC (zs : List Int) : Prop := zs.getD (zs.length - 1) 0 = infV
theorem infC_iff (zs : List Int) : InfC zs ↔ zs.getD (zs.length - 1) 0 = infV := Iff.rfl

/-- How far the first curve is ahead; 1 or -1 if one of the values is infinite. -/
noncomputable def dC (zs : List Int) (p : Nat) (inc : Int) (ys : List Int) (q : Nat) (jnc : Int) (t : Nat) : Int :=
  open Classical in
  if InfC zs ∧ atC zs p inc t = infV then (if InfC ys ∧ atC ys q jnc t = infV then 0 else 1)
  else if InfC ys ∧ atC ys q jnc t = infV then -1 else atC zs p inc t - atC ys q jnc t

section
variable {zs ys : List Int} {p q : Nat} {inc jnc : Int}

/-- A value of an infinite curve is infinite or small. -/
theorem Good.inf_small (g : Good zs p inc) (hi : InfC zs) (t : Nat) : atC zs p inc t = infV ∨ (0 ≤ atC zs p inc t ∧ atC zs p inc t ≤ 1073741824) := by
  have h3 := g.p3; have h1 := g.p1
  by_cases ht : t < zs.length
  · rw [atC_lt ht]
    rcases g.val t ht with h | h
    · exact .inr h
    · exact .inl h
  · exact .inl (atC_inf hi (by omega) (by omega))

theorem Good.nonneg (g : Good zs p inc) (t : Nat) : 0 ≤ atC zs p inc t := by
  by_cases hi : InfC zs
  · rcases g.inf_small hi t with h | h
    · rw [h]; unfold infV; omega
    · exact h.1
  · exact (g.bd hi t).1

/-- At a tick up to MaxTime the values themselves tell. -/
theorem Good.seen (g : Good zs p inc) {t : Nat} (ht : t ≤ 1048576) : (InfC zs ∧ atC zs p inc t = infV) ∨ ((¬ (InfC zs ∧ atC zs p inc t = infV)) ∧ 0 ≤ atC zs p inc t ∧ atC zs p inc t ≤ 1073741824 * ((t : Int) + 1)) := by
  by_cases hi : InfC zs
  · rcases g.inf_small hi t with h | h
    · exact .inl ⟨hi, h⟩
    · refine .inr ⟨fun hx => ?_, h.1, by omega⟩
      have := hx.2; unfold infV at this; omega
  · exact .inr ⟨fun hx => hi hx.1, g.bd hi t⟩

theorem dC_fin (h1 : ¬ InfC zs) (h2 : ¬ InfC ys) (t : Nat) : dC zs p inc ys q jnc t = atC zs p inc t - atC ys q jnc t := by
  unfold dC; rw [if_neg (fun h => h1 h.1), if_neg (fun h => h2 h.1)]

theorem dC_low (h1 : ¬ InfC zs) {t : Nat} (h2 : InfC ys ∧ atC ys q jnc t = infV) : dC zs p inc ys q jnc t = -1 := by
  unfold dC; rw [if_neg (fun h => h1 h.1), if_pos h2]
theorem dC_high {t : Nat} (h1 : InfC zs ∧ atC zs p inc t = infV) (h2 : ¬ InfC ys) : dC zs p inc ys q jnc t = 1 := by
  unfold dC; rw [if_pos h1, if_neg (fun h => h2 h.1)]
theorem dC_both {t : Nat} (h1 : InfC zs ∧ atC zs p inc t = infV) (h2 : InfC ys ∧ atC ys q jnc t = infV) : dC zs p inc ys q jnc t = 0 := by
  unfold dC; rw [if_pos h1, if_pos h2]

theorem dC_sign (g : Good zs p inc) (k : Good ys q jnc) {t : Nat} (ht : t ≤ 1048576) :
    (0 < dC zs p inc ys q jnc t ↔ atC ys q jnc t < atC zs p inc t) ∧ (dC zs p inc ys q jnc t = 0 ↔ atC zs p inc t = atC ys q jnc t) := by
  unfold dC
  rcases g.seen ht with h1 | ⟨h1, h2, h3⟩ <;> rcases k.seen ht with k1 | ⟨k1, k2, k3⟩
  · rw [if_pos h1, if_pos k1, h1.2, k1.2]; simp
  · rw [if_pos h1, if_neg k1, h1.2]; unfold infV; constructor <;> constructor <;> intro <;> omega
  · rw [if_neg h1, if_pos k1, k1.2]; unfold infV; constructor <;> constructor <;> intro <;> omega
  · rw [if_neg h1, if_neg k1]; constructor <;> constructor <;> intro <;> omega

theorem at_bd (g : Good zs p inc) {t : Nat} (ht : t ≤ 1048576) : 0 ≤ atC zs p inc t ∧ atC zs p inc t ≤ 4611686018427387904 := by
  rcases g.seen ht with h1 | ⟨h1, h2, h3⟩
  · rw [h1.2]; unfold infV; omega
  · omega

/-- A multiple of both periods. -/
structure Lcm (p q L : Nat) : Prop where
  one : 1 ≤ L
  le : L ≤ p * q
  dp : L / p * p = L
  dq : L / q * q = L

theorem lcm_of (hp : 1 ≤ p) (hq : 1 ≤ q) {L : Nat} (h : p / Nat.gcd p q * q = L) : Lcm p q L := by
  have hg := Nat.gcd_pos_of_pos_left q (show 0 < p by omega)
  obtain ⟨x, hx⟩ := Nat.gcd_dvd_left p q
  obtain ⟨y, hy⟩ := Nat.gcd_dvd_right p q
  have e1 : p / Nat.gcd p q = x := by
    have : Nat.gcd p q * x / Nat.gcd p q = x := Nat.mul_div_cancel_left x hg
    rwa [← hx] at this
  rw [e1] at h
  have hLp : L = y * p := by
    rw [← h]
    have k1 : x * (Nat.gcd p q * y) = y * (Nat.gcd p q * x) := by rw [Nat.mul_left_comm, Nat.mul_left_comm y, Nat.mul_comm x y]
    rw [← hy, ← hx] at k1; exact k1
  have hx1 : 1 ≤ x := by
    rcases Nat.eq_zero_or_pos x with h0 | h0
    · rw [h0] at hx; omega
    · exact h0
  have hxp : x ≤ p := by rw [← e1]; exact Nat.div_le_self _ _
  refine ⟨?_, ?_, ?_, ?_⟩
  · rw [← h]; exact Nat.mul_pos hx1 hq
  · rw [← h]; exact Nat.mul_le_mul_right q hxp
  · rw [hLp, Nat.mul_div_cancel _ (by omega)]
  · rw [← h, Nat.mul_div_cancel _ (by omega)]

/-- The growth of the difference in a common period. -/
noncomputable def growC (zs : List Int) (p : Nat) (inc : Int) (ys : List Int) (q : Nat) (jnc : Int) (L : Nat) : Int :=
  open Classical in
  if (InfC zs ↔ InfC ys) then ((L / p : Nat) : Int) * inc - ((L / q : Nat) : Int) * jnc else 0

theorem growC_fin (h1 : ¬ InfC zs) (h2 : ¬ InfC ys) {L : Nat} : growC zs p inc ys q jnc L = ((L / p : Nat) : Int) * inc - ((L / q : Nat) : Int) * jnc := by
  unfold growC; rw [if_pos ⟨fun h => absurd h h1, fun h => absurd h h2⟩]
theorem growC_inf (g : Good zs p inc) (k : Good ys q jnc) (h : InfC zs ∨ InfC ys) {L : Nat} : growC zs p inc ys q jnc L = 0 := by
  unfold growC
  by_cases hi : (InfC zs ↔ InfC ys)
  · rw [if_pos hi]
    have h1 : InfC zs := h.elim id hi.2
    rw [(g.tailI h1).2, (k.tailI (hi.1 h1)).2]; simp
  · rw [if_neg hi]
theorem dC_per (g : Good zs p inc) (k : Good ys q jnc) {L S : Nat} (hL : Lcm p q L) (h1 : zs.length - p ≤ S) (h2 : ys.length - q ≤ S) : Per (dC zs p inc ys q jnc) S L (growC zs p inc ys q jnc L) := by
  have hp1 := g.p1; have hp3 := g.p3; have hq1 := k.p1; have hq3 := k.p3
  by_cases hz : InfC zs
  · have ez : ∀ t, S ≤ t → InfC zs ∧ atC zs p inc t = infV := fun t ht => ⟨hz, atC_inf hz (by have := (g.tailI hz).1; omega) (by omega)⟩
    rw [growC_inf g k (.inl hz)]
    intro t ht
    have e1 := ez t ht
    have e2 := ez (t + L) (by omega)
    by_cases hy : InfC ys
    · have ey : ∀ t, S ≤ t → InfC ys ∧ atC ys q jnc t = infV := fun t ht => ⟨hy, atC_inf hy (by have := (k.tailI hy).1; omega) (by omega)⟩
      rw [dC_both e1 (ey t ht), dC_both e2 (ey (t + L) (by omega))]; simp
    · rw [dC_high e1 hy, dC_high e2 hy]; simp
  · by_cases hy : InfC ys
    · have ey : ∀ t, S ≤ t → InfC ys ∧ atC ys q jnc t = infV := fun t ht => ⟨hy, atC_inf hy (by have := (k.tailI hy).1; omega) (by omega)⟩
      rw [growC_inf g k (.inr hy)]
      intro t ht
      rw [dC_low hz (ey t ht), dC_low hz (ey (t + L) (by omega))]; simp
    · rw [growC_fin hz hy]
      intro t ht
      rw [dC_fin hz hy, dC_fin hz hy]
      have P1 := ((g.per hz).mul (L / p)).mono h1 t ht
      have P2 := ((k.per hy).mul (L / q)).mono h2 t ht
      rw [hL.dp] at P1
      rw [hL.dq] at P2
      omega

/-- All three answers exist, whatever the difference is. -/
theorem least_ex {P : Nat → Prop} (h : ∃ n, P n) : ∃ n, P n ∧ ∀ m, m < n → ¬ P m := by
  obtain ⟨n, hn⟩ := h
  induction n using Nat.strongRecOn with
  | ind n ih =>
    by_cases hx : ∃ m, m < n ∧ P m
    · obtain ⟨m, hm, hp⟩ := hx; exact ih m hm hp
    · exact ⟨n, hn, fun m hm hp => hx ⟨m, hm, hp⟩⟩

end
end Go.Proofs.Ythljhddnfflpjaa

namespace Go.Proofs.Ythljhddnfflpjaa

/-! ## The least period and start of a function -/

theorem normOf_ex {f : Nat → Int} {s P : Nat} {c : Int} (h : Per f s P c) (hP : 1 ≤ P) : ∃ s' p c', NormOf f s' p c' := by
  obtain ⟨p, ⟨h1, s1, c1, hp⟩, hl⟩ := least_ex (P := fun q => 1 ≤ q ∧ ∃ s c, Per f s q c) ⟨P, hP, s, c, h⟩
  obtain ⟨s2, h2, hs⟩ := least_ex (P := fun s => Per f s p c1) ⟨s1, hp⟩
  refine ⟨s2, p, c1, h2, h1, fun q hq hlt s' c' hk => hl q hlt ⟨hq, s', c', hk⟩, ?_⟩
  rcases Nat.eq_zero_or_pos s2 with h0 | hpos
  · exact .inl h0
  · refine .inr fun he => hs (s2 - 1) (by omega) fun t ht => ?_
    by_cases hlt : t = s2 - 1
    · rw [hlt]; exact he
    · exact h2 t (by omega)

theorem NormOf.start_le {f : Nat → Int} {s p s' P : Nat} {c I : Int} (h : NormOf f s p c) (k : Per f s' P I) (hP : 1 ≤ P) : s ≤ s' := by
  rcases h.start with h0 | hn
  · omega
  · exact Nat.le_of_not_lt fun hlt => hn ((k.any hP h.per) (s - 1) (by omega))

theorem NormOf.per_le {f : Nat → Int} {s p s' P : Nat} {c I : Int} (h : NormOf f s p c) (k : Per f s' P I) (hP : 1 ≤ P) : p ≤ P :=
  Nat.le_of_not_lt fun hlt => h.least P hP hlt _ _ k

theorem Good.perAny {zs : List Int} {p : Nat} {inc : Int} (g : Good zs p inc) : Per (atC zs p inc) (zs.length - p) p inc := by
  by_cases hi : zs.getD (zs.length - 1) 0 = infV
  · have h3 := g.p3
    obtain ⟨rfl, rfl⟩ := g.tailI hi
    intro t ht
    rw [atC_inf hi (by omega) (by omega), atC_inf hi (by omega) (by omega)]; omega
  · exact g.per hi

/-- A curve in normal form with the values F. -/
def Form (zs : List Int) (p : Nat) (inc : Int) (F : Nat → Int) : Prop :=
  Good zs p inc ∧ (∀ t, atC zs p inc t = F t) ∧ ∃ s, zs.length = s + p ∧ NormOf F s p inc

def CanBe (F : Nat → Int) : Prop := ∃ zs p inc, Good zs p inc ∧ ∀ t, atC zs p inc t = F t

theorem Form.unique {zs ys : List Int} {p q : Nat} {inc jnc : Int} {F : Nat → Int} (h : Form zs p inc F) (k : Form ys q jnc F) : zs = ys ∧ p = q ∧ inc = jnc := by
  obtain ⟨g, hv, s, hs, hn⟩ := h
  obtain ⟨g', kv, s', ks, kn⟩ := k
  obtain ⟨rfl, rfl, rfl⟩ := hn.unique kn
  refine ⟨list_ext_getD (by omega) fun i hi => ?_, rfl, rfl⟩
  rw [← atC_lt (p := p) (inc := inc) hi, ← atC_lt (zs := ys) (p := p) (inc := inc) (by omega), hv, kv]

theorem Good.form {ys : List Int} {q : Nat} {j : Int} (g : Good ys q j) {F : Nat → Int} (he : ∀ t, atC ys q j t = F t) {s p : Nat} {c : Int} (hn : NormOf F s p c) :
    s + p ≤ ys.length ∧ p ≤ q ∧ NormC ys q j (firsts F (s + p)) p c ∧ Form (firsts F (s + p)) p c F := by
  have hpe : Per F (ys.length - q) q j := fun t ht => by rw [← he, ← he]; exact g.perAny t ht
  have hs := hn.start_le hpe g.p1
  have hp := hn.per_le hpe g.p1
  have h3 := g.p3
  have h1 := g.p1
  have hp1 := hn.pos
  have htk : firsts F (s + p) = ys.take (s + p) := list_ext_getD (by rw [firsts_length, List.length_take]; omega) fun i hi => by
    rw [firsts_length] at hi
    rw [firsts_getD _ _ _ hi, getD_take hi, ← he, atC_lt (by omega)]
  have hN : NormC ys q j (firsts F (s + p)) p c := by
    rw [htk]
    by_cases hi : ys.getD (ys.length - 1) 0 = infV
    · obtain ⟨rfl, rfl⟩ := g.tailI hi
      obtain rfl : p = 1 := by omega
      have hc : c = 0 := (hn.per.mono hs).same hpe
      subst hc
      have hF : ∀ k, F (s + k) = F s := fun k => by
        induction k with
        | zero => rfl
        | succ k ih => have := hn.per (s + k) (by omega); rw [show s + (k + 1) = s + k + 1 by omega]; omega
      have hFs : F s = infV := by
        have := hF (ys.length - 1 - s)
        rw [show s + (ys.length - 1 - s) = ys.length - 1 by omega, ← he, atC_lt (by omega), hi] at this
        exact this.symm
      refine .inr ⟨s, by omega, by rw [← atC_lt (p := 1) (inc := 0) (show s < ys.length by omega), he]; exact hFs, fun k hk hx => ?_, rfl, rfl, rfl⟩
      rcases hn.start with h0 | hne
      · omega
      · have a1 := g.le (show k ≤ s - 1 by omega) (by omega)
        have a2 := g.val (s - 1) (by omega)
        have a3 := he (s - 1)
        rw [atC_lt (by omega)] at a3
        apply hne
        rw [show s - 1 + 1 = s by omega, hFs, ← a3]
        unfold infV at *; omega
    · exact .inl ⟨hi, s, by rw [show atC ys q j = F from funext he]; exact hn, rfl, by omega, hp⟩
  have hv := hN.values g
  exact ⟨by omega, hp, hN, hN.good g, fun t => (hv t).trans (he t), s, firsts_length _ _, hn⟩

/-- The list that the search makes is the curve, if it is valid. -/
theorem form_of {F : Nat → Int} {s p : Nat} {c : Int} (hn : NormOf F s p c) (g : Good (firsts F (s + p)) p c) : Form (firsts F (s + p)) p c F := by
  have hl := firsts_length F (s + p)
  have hp1 := hn.pos
  refine ⟨g, ?_, s, hl, hn⟩
  by_cases hi : (firsts F (s + p)).getD ((firsts F (s + p)).length - 1) 0 = infV
  · obtain ⟨rfl, rfl⟩ := g.tailI hi
    have hF : ∀ k, F (s + k) = F s := fun k => by
      induction k with
      | zero => rfl
      | succ k ih => have := hn.per (s + k) (by omega); rw [show s + (k + 1) = s + k + 1 by omega]; omega
    have hFs : F s = infV := by rw [hl, show s + 1 - 1 = s by omega, firsts_getD _ _ _ (by omega)] at hi; exact hi
    intro t
    by_cases ht : t < s + 1
    · rw [atC_lt (by omega), firsts_getD _ _ _ ht]
    · rw [atC_inf hi (by omega) (by omega), show t = s + (t - s) by omega, hF, hFs]
  · have hper := atC_per (inc := c) hn.pos (show p ≤ (firsts F (s + p)).length by omega) hi
    rw [hl, show s + p - p = s by omega] at hper
    exact hper.ext hn.per hn.pos fun t ht => by rw [atC_lt (by omega), firsts_getD _ _ _ ht]

theorem no_form {F : Nat → Int} {s p : Nat} {c : Int} (hn : NormOf F s p c) (h : ¬ Good (firsts F (s + p)) p c) : ¬ CanBe F := by
  rintro ⟨ys, q, j, g, he⟩
  exact h (g.form he hn).2.2.2.1

theorem no_form_long {F : Nat → Int} {s p : Nat} {c : Int} (hn : NormOf F s p c) (h : 400 < s + p) : ¬ CanBe F :=
  no_form hn fun g => by have := g.few; rw [firsts_length] at this; omega

theorem CanBe.form {F : Nat → Int} (h : CanBe F) : ∃ zs p inc, Form zs p inc F := by
  obtain ⟨ys, q, j, g, he⟩ := h
  have hpe : Per F (ys.length - q) q j := fun t ht => by rw [← he, ← he]; exact g.perAny t ht
  obtain ⟨s, p, c, hn⟩ := normOf_ex hpe g.p1
  exact ⟨_, _, _, (g.form he hn).2.2.2⟩

theorem CanBe.per {F : Nat → Int} (h : CanBe F) : ∃ s p c, s ≤ 399 ∧ 1 ≤ p ∧ Per F s p c := by
  obtain ⟨ys, q, j, g, he⟩ := h
  have h1 := g.few; have h2 := g.p1; have h3 := g.p3
  exact ⟨ys.length - q, q, j, by omega, h2, fun t ht => by rw [← he, ← he]; exact g.perAny t ht⟩

/-! ## Values that may be infinite -/

def enc : Option Int → Int
  | none => infV
  | some x => x

open Classical in
noncomputable def eC (zs : List Int) (p : Nat) (inc : Int) (t : Nat) : Option Int :=
  if InfC zs ∧ atC zs p inc t = infV then none else some (atC zs p inc t)

theorem enc_eC (zs : List Int) (p : Nat) (inc : Int) (t : Nat) : enc (eC zs p inc t) = atC zs p inc t := by
  unfold eC
  split
  · rename_i h; exact h.2.symm
  · rfl

theorem eC_fin {zs : List Int} (h : ¬ InfC zs) (p : Nat) (inc : Int) (t : Nat) : eC zs p inc t = some (atC zs p inc t) := by
  unfold eC; rw [if_neg (fun hx => h hx.1)]

theorem eC_none {zs : List Int} {p : Nat} {inc : Int} {t : Nat} : eC zs p inc t = none ↔ InfC zs ∧ atC zs p inc t = infV := by
  unfold eC
  split
  · rename_i h; exact ⟨fun _ => h, fun _ => rfl⟩
  · rename_i h; exact ⟨(fun hx => by cases hx), fun hx => absurd hx h⟩

/-- In an infinite curve each value is none or small. -/
theorem eC_inf {zs : List Int} {p : Nat} {inc : Int} (g : Good zs p inc) (hi : InfC zs) (t : Nat) : eC zs p inc t = none ∨ ∃ x, eC zs p inc t = some x ∧ atC zs p inc t = x ∧ 0 ≤ x ∧ x ≤ 1073741824 := by
  rcases g.inf_small hi t with h | h
  · exact .inl (eC_none.2 ⟨hi, h⟩)
  · refine .inr ⟨_, ?_, rfl, h.1, h.2⟩
    unfold eC; rw [if_neg]
    intro hx; have := hx.2; unfold infV at this; omega

theorem eC_late {zs : List Int} {p : Nat} {inc : Int} (g : Good zs p inc) (hi : InfC zs) {t : Nat} (ht : zs.length - 1 ≤ t) : eC zs p inc t = none := by
  have h1 := g.p1; have h3 := g.p3
  exact eC_none.2 ⟨hi, atC_inf hi ht (by omega)⟩

theorem eC_up {zs : List Int} {p : Nat} {inc : Int} (g : Good zs p inc) {t : Nat} (h : eC zs p inc t = none) : eC zs p inc (t + 1) = none := by
  obtain ⟨hi, ha⟩ := eC_none.1 h
  refine eC_none.2 ⟨hi, ?_⟩
  have h1 := g.step t
  rcases g.inf_small hi (t + 1) with h2 | h2
  · exact h2
  · rw [ha] at h1; unfold infV at h1; omega

theorem eC_bd {zs : List Int} {p : Nat} {inc : Int} (g : Good zs p inc) {t : Nat} {x : Int} (h : eC zs p inc t = some x) : 0 ≤ x ∧ x ≤ 1073741824 * ((t : Int) + 1) ∧ atC zs p inc t = x := by
  by_cases hi : InfC zs
  · rcases eC_inf g hi t with h2 | ⟨y, h2, h3, h4, h5⟩
    · rw [h2] at h; cases h
    · rw [h2] at h; cases h; omega
  · rw [eC_fin hi] at h; cases h
    have := g.bd hi t
    omega

/-- What the values of a curve that is to be made keep to: what is infinite stays so, and is told from what is finite. -/
def Tame (E : Nat → Option Int) : Prop :=
  (∀ t, E t = none → E (t + 1) = none) ∧ ((∃ u, 400 ≤ u ∧ ∃ y, E u = some y ∧ ¬ y = infV) ∨ (∀ t x, E t = some x → ¬ x = infV))

/-- A curve in normal form with these values. -/
def EForm (zs : List Int) (p : Nat) (inc : Int) (E : Nat → Option Int) : Prop :=
  Good zs p inc ∧ (∀ t, eC zs p inc t = E t) ∧ ∃ s, zs.length = s + p ∧ NormOf (atC zs p inc) s p inc

def ECan (E : Nat → Option Int) : Prop := ∃ zs p inc, Good zs p inc ∧ ∀ t, eC zs p inc t = E t

def encF (E : Nat → Option Int) (t : Nat) : Int := enc (E t)

theorem stays {E : Nat → Option Int} (h : ∀ t, E t = none → E (t + 1) = none) {t : Nat} (h0 : E t = none) (k : Nat) : E (t + k) = none := by
  induction k with
  | zero => exact h0
  | succ k ih => exact h (t + k) ih

theorem eform_of {E : Nat → Option Int} (hT : Tame E) {zs : List Int} {p : Nat} {inc : Int} (h : Form zs p inc (encF E)) : EForm zs p inc E := by
  obtain ⟨g, hv, s, hs, hn⟩ := h
  refine ⟨g, fun t => ?_, s, hs, by rw [show atC zs p inc = encF E from funext hv]; exact hn⟩
  have hf := g.few; have h1 := g.p1; have h3 := g.p3
  cases hE : E t with
  | none =>
    have ha : atC zs p inc t = infV := by rw [hv]; unfold encF; rw [hE]; rfl
    refine eC_none.2 ⟨Classical.byContradiction fun hi => ?_, ha⟩
    have hall : ∀ k, atC zs p inc (t + k) = infV := fun k => by rw [hv]; unfold encF; rw [stays hT.1 hE]; rfl
    have hper := g.per hi
    have e1 := hper (t + zs.length) (by omega)
    rw [hall, show t + zs.length + p = t + (zs.length + p) by omega, hall] at e1
    have hi0 : inc = 0 := by omega
    have e2 := (hper.mul t) (zs.length - p) (Nat.le_refl _)
    rw [hi0, Int.mul_zero, Int.add_zero] at e2
    have hle : t ≤ t * p := Nat.le_mul_of_pos_right _ (by omega)
    rw [hi0] at hall
    rw [show zs.length - p + t * p = t + (zs.length - p + t * p - t) by omega, hall, atC_lt (by omega)] at e2
    have := g.small hi (show zs.length - p < zs.length by omega)
    unfold infV at e2; omega
  | some x =>
    have ha : atC zs p inc t = x := by rw [hv]; unfold encF; rw [hE]; rfl
    unfold eC
    rw [if_neg, ha]
    rintro ⟨hi, hx⟩
    rcases hT.2 with ⟨u, hu, y, hy, hne⟩ | h
    · apply hne
      have e : atC zs p inc u = y := by rw [hv]; unfold encF; rw [hy]; rfl
      rw [← e]; exact atC_inf hi (by omega) (by omega)
    · exact h t x hE (by rw [← ha]; exact hx)

theorem ECan.can {E : Nat → Option Int} (h : ECan E) : CanBe (encF E) := by
  obtain ⟨zs, p, inc, g, he⟩ := h
  exact ⟨zs, p, inc, g, fun t => by rw [← enc_eC, he]; rfl⟩

theorem EForm.form {zs : List Int} {p : Nat} {inc : Int} {E : Nat → Option Int} (h : EForm zs p inc E) : Form zs p inc (encF E) := by
  obtain ⟨g, he, s, hs, hn⟩ := h
  have hv : ∀ t, atC zs p inc t = encF E t := fun t => by rw [← enc_eC, he]; rfl
  exact ⟨g, hv, s, hs, by rw [← show atC zs p inc = encF E from funext hv]; exact hn⟩

theorem EForm.unique {zs ys : List Int} {p q : Nat} {inc jnc : Int} {E : Nat → Option Int} (h : EForm zs p inc E) (k : EForm ys q jnc E) : zs = ys ∧ p = q ∧ inc = jnc :=
  h.form.unique k.form

theorem EForm.can {zs : List Int} {p : Nat} {inc : Int} {E : Nat → Option Int} (h : EForm zs p inc E) : ECan E := ⟨zs, p, inc, h.1, h.2.1⟩

/-- The normal form of a valid curve. -/
theorem NormC.eform {zs zs' : List Int} {p p' : Nat} {inc inc' : Int} (g : Good zs p inc) (h : NormC zs p inc zs' p' inc') : EForm zs' p' inc' (eC zs p inc) := by
  have hv := h.values g
  have g' := h.good g
  have hfin := h.fin_iff g
  have he : ∀ t, eC zs' p' inc' t = eC zs p inc t := fun t => by
    have e : InfC zs' ↔ InfC zs := hfin
    unfold eC
    rw [hv t]
    by_cases hi : InfC zs
    · have hi' := e.2 hi
      by_cases ha : atC zs p inc t = infV
      · rw [if_pos ⟨hi', ha⟩, if_pos ⟨hi, ha⟩]
      · rw [if_neg (fun hx => ha hx.2), if_neg (fun hx => ha hx.2)]
    · rw [if_neg (fun hx => hi (e.1 hx.1)), if_neg (fun hx => hi hx.1)]
  refine ⟨g', he, ?_⟩
  rw [show atC zs' p' inc' = atC zs p inc from funext hv]
  obtain ⟨s, p2, c2, hn⟩ := normOf_ex g.perAny g.p1
  obtain ⟨_, _, hN, hF⟩ := g.form (fun _ => rfl) hn
  obtain ⟨rfl, rfl, rfl⟩ := h.canon g g hN (fun _ => rfl)
  exact ⟨s, firsts_length _ _, hn⟩

/-! ## Curves from their values -/

theorem good_fin {F : Nat → Int} {s p : Nat} {c : Int} (hp : Per F s p c) (h1 : 1 ≤ p) (h2 : p ≤ 120) (h3 : s + p ≤ 400) (h0 : 0 ≤ F 0) (hm : ∀ t, t < s + p → F t ≤ F (t + 1)) (hb : F (s + p - 1) ≤ 1073741824) (hc : c ≤ 1073741824) :
    Good (firsts F (s + p)) p c ∧ (¬ InfC (firsts F (s + p))) ∧ ∀ t, atC (firsts F (s + p)) p c t = F t := by
  have hl := firsts_length F (s + p)
  have up : ∀ k i, i + k ≤ s + p → F i ≤ F (i + k) := fun k => by
    induction k with
    | zero => intro i _; exact Int.le_refl _
    | succ k ih => intro i hi; have a := ih i (by omega); have b := hm (i + k) (by omega); rw [show i + (k + 1) = i + k + 1 by omega]; omega
  have lo : ∀ i, i ≤ s + p → 0 ≤ F i := fun i hi => by have := up i 0 (by omega); rw [Nat.zero_add] at this; omega
  have hi' : ∀ i, i < s + p → F i ≤ 1073741824 := fun i hi => by have := up (s + p - 1 - i) i (by omega); rw [show i + (s + p - 1 - i) = s + p - 1 by omega] at this; omega
  have hlast : ¬ InfC (firsts F (s + p)) := by
    rw [infC_iff, hl, firsts_getD _ _ _ (by omega)]; unfold infV; omega
  have hc0 : F (s + p) = F s + c := hp s (Nat.le_refl _)
  have hup := up p s (by omega)
  have g : Good (firsts F (s + p)) p c := by
    refine ⟨by omega, h1, h2, by omega, by omega, hc, fun i hi => ?_, fun i hi => ?_, fun hx => absurd hx hlast, fun _ => ?_⟩
    · rw [hl] at hi; rw [firsts_getD _ _ _ hi]; exact .inl ⟨lo i (by omega), hi' i hi⟩
    · rw [hl] at hi; rw [firsts_getD _ _ _ (by omega), firsts_getD _ _ _ hi]; exact hm i (by omega)
    · rw [hl, firsts_getD _ _ _ (by omega), firsts_getD _ _ _ (by omega), show s + p - p = s by omega]
      have := hm (s + p - 1) (by omega)
      rw [show s + p - 1 + 1 = s + p by omega] at this
      omega
  refine ⟨g, hlast, ?_⟩
  have hper := g.per hlast
  rw [hl, show s + p - p = s by omega] at hper
  exact hper.ext hp h1 fun t ht => by rw [atC_lt (by omega), firsts_getD _ _ _ ht]

/-- There is a curve with these values, all finite. -/
theorem can_fin {E : Nat → Option Int} {F : Nat → Int} (hE : ∀ t, E t = some (F t)) {s p : Nat} {c : Int} (hp : Per F s p c) (h1 : 1 ≤ p) (h2 : p ≤ 120) (h3 : s + p ≤ 400) (h0 : 0 ≤ F 0) (hm : ∀ t, t < s + p → F t ≤ F (t + 1)) (hb : F (s + p - 1) ≤ 1073741824) (hc : c ≤ 1073741824) : ECan E := by
  obtain ⟨g, hf, hv⟩ := good_fin hp h1 h2 h3 h0 hm hb hc
  exact ⟨_, _, _, g, fun t => by rw [eC_fin hf, hv, hE]⟩

/-- There is a curve with these values, which are infinite from i on. -/
theorem can_inf {E : Nat → Option Int} {F : Nat → Int} {i : Nat} (hi : i ≤ 399) (hE : ∀ t, t < i → E t = some (F t)) (hN : ∀ t, i ≤ t → E t = none) (hb : ∀ t, t < i → 0 ≤ F t ∧ F t ≤ 1073741824) (hm : ∀ t, t + 1 < i → F t ≤ F (t + 1)) : ECan E := by
  have hl : (firsts F i ++ [infV]).length = i + 1 := by simp [firsts_length]
  have hlt : ∀ j, j < i → (firsts F i ++ [infV]).getD j 0 = F j := fun j hj => by
    rw [getD_append_lt (by rw [firsts_length]; exact hj), firsts_getD _ _ _ hj]
  have hat : (firsts F i ++ [infV]).getD i 0 = infV := by
    have := getD_append_eq (zs := firsts F i) (v := infV)
    rwa [firsts_length] at this
  have hlast : InfC (firsts F i ++ [infV]) := by rw [infC_iff, hl, Nat.add_sub_cancel, hat]
  have g : Good (firsts F i ++ [infV]) 1 0 := by
    refine ⟨by omega, by omega, by omega, by omega, by omega, by omega, fun j hj => ?_, fun j hj => ?_, fun _ => ⟨rfl, rfl⟩, fun hx => absurd hlast hx⟩
    · by_cases he : j = i
      · subst he; exact .inr hat
      · rw [hlt j (by omega)]; exact .inl (hb j (by omega))
    · by_cases he : j + 1 = i
      · rw [he, hat, hlt j (by omega)]; have := hb j (by omega); unfold infV; omega
      · rw [hlt j (by omega), hlt (j + 1) (by omega)]; exact hm j (by omega)
  refine ⟨_, _, _, g, fun t => ?_⟩
  by_cases ht : t < i
  · rw [hE t ht]
    unfold eC
    rw [if_neg, atC_lt (by omega), hlt t ht]
    rintro ⟨_, hx⟩
    rw [atC_lt (by omega), hlt t ht] at hx
    have := hb t ht
    unfold infV at hx; omega
  · rw [hN t (by omega)]
    exact eC_none.2 ⟨hlast, atC_inf hlast (by omega) (by omega)⟩

/-! ## The greater and the lesser of two functions -/

def maxF (a b : Nat → Int) (t : Nat) : Int := max (a t) (b t)
def minF (a b : Nat → Int) (t : Nat) : Int := min (a t) (b t)

theorem max_found {a b : Nat → Int} {S L : Nat} {ca cb : Int} (ha : Per a S L ca) (hb : Per b S L cb) (hL : 1 ≤ L) (h : ∀ t, S ≤ t → t < S + L → maxF a b (t + L) = maxF a b t + max ca cb) : Per (maxF a b) S L (max ca cb) := by
  intro t
  induction t using Nat.strongRecOn with
  | ind t ih =>
    intro ht
    by_cases hlt : t < S + L
    · exact h t ht hlt
    · obtain ⟨u, rfl⟩ : ∃ u, t = u + L := ⟨t - L, by omega⟩
      have h0 := ih u (by omega) (by omega)
      have a1 := ha u (by omega)
      have a2 := ha (u + L) (by omega)
      have b1 := hb u (by omega)
      have b2 := hb (u + L) (by omega)
      unfold maxF at *
      rw [a2, b2]
      rw [a1, b1] at h0 ⊢
      omega

theorem bound_ex (d : Nat → Int) (S : Nat) : ∀ L, ∃ K : Nat, ∀ r, r < L → d (S + r) ≤ K
  | 0 => ⟨0, fun r hr => absurd hr (Nat.not_lt_zero _)⟩
  | L + 1 => by
    obtain ⟨K, hK⟩ := bound_ex d S L
    refine ⟨K + (d (S + L)).toNat, fun r hr => ?_⟩
    by_cases he : r = L
    · subst he; omega
    · have := hK r (by omega); omega

/-- What falls from period to period is below 0 in the end. -/
theorem falls {d : Nat → Int} {S L : Nat} {c : Int} (h : Per d S L c) (hL : 1 ≤ L) (hc : c < 0) : ∃ S', S ≤ S' ∧ ∀ t, S' ≤ t → d t ≤ 0 := by
  obtain ⟨K, hK⟩ := bound_ex d S L
  refine ⟨S + (K + 1) * L, by omega, fun t ht => ?_⟩
  obtain ⟨r, j, hr, rfl⟩ := tick_split (S := S) hL (show S ≤ t by omega)
  have hj : K ≤ j := by
    refine Nat.le_of_not_lt fun hlt => ?_
    have h1 : j * L + L ≤ K * L := by
      have := Nat.mul_le_mul_right L (show j + 1 ≤ K by omega)
      rwa [Nat.succ_mul] at this
    rw [Nat.succ_mul] at ht
    omega
  rw [h.to r j]
  have h1 := hK r hr
  have h2 : (j : Int) * c ≤ (j : Int) * (-1) := Int.mul_le_mul_of_nonneg_left (by omega) (by omega)
  omega

theorem max_late {a b : Nat → Int} {S L : Nat} {ca cb : Int} (ha : Per a S L ca) (hb : Per b S L cb) (hL : 1 ≤ L) : ∃ S', Per (maxF a b) S' L (max ca cb) := by
  have hd : Per (fun t => a t - b t) S L (ca - cb) := fun t ht => by have := ha t ht; have := hb t ht; show a (t + L) - b (t + L) = a t - b t + (ca - cb); omega
  have hd' : Per (fun t => b t - a t) S L (cb - ca) := fun t ht => by have := ha t ht; have := hb t ht; show b (t + L) - a (t + L) = b t - a t + (cb - ca); omega
  rcases Int.lt_trichotomy ca cb with h | h | h
  · obtain ⟨S', hS, hf⟩ := falls hd hL (by omega)
    refine ⟨S', fun t ht => ?_⟩
    have e1 : a t - b t ≤ 0 := hf t ht
    have e2 : a (t + L) - b (t + L) ≤ 0 := hf (t + L) (by omega)
    have e3 := hb t (by omega)
    unfold maxF; omega
  · refine ⟨S, fun t ht => ?_⟩
    have e1 := ha t ht
    have e2 := hb t ht
    unfold maxF; omega
  · obtain ⟨S', hS, hf⟩ := falls hd' hL (by omega)
    refine ⟨S', fun t ht => ?_⟩
    have e1 : b t - a t ≤ 0 := hf t ht
    have e2 : b (t + L) - a (t + L) ≤ 0 := hf (t + L) (by omega)
    have e3 := ha t (by omega)
    unfold maxF; omega

theorem min_late {a b : Nat → Int} {S L : Nat} {ca cb : Int} (ha : Per a S L ca) (hb : Per b S L cb) (hL : 1 ≤ L) : ∃ S', Per (minF a b) S' L (min ca cb) := by
  have hd : Per (fun t => a t - b t) S L (ca - cb) := fun t ht => by have := ha t ht; have := hb t ht; show a (t + L) - b (t + L) = a t - b t + (ca - cb); omega
  have hd' : Per (fun t => b t - a t) S L (cb - ca) := fun t ht => by have := ha t ht; have := hb t ht; show b (t + L) - a (t + L) = b t - a t + (cb - ca); omega
  rcases Int.lt_trichotomy ca cb with h | h | h
  · obtain ⟨S', hS, hf⟩ := falls hd hL (by omega)
    refine ⟨S', fun t ht => ?_⟩
    have e1 : a t - b t ≤ 0 := hf t ht
    have e2 : a (t + L) - b (t + L) ≤ 0 := hf (t + L) (by omega)
    have e3 := ha t (by omega)
    unfold minF; omega
  · refine ⟨S, fun t ht => ?_⟩
    have e1 := ha t ht
    have e2 := hb t ht
    unfold minF; omega
  · obtain ⟨S', hS, hf⟩ := falls hd' hL (by omega)
    refine ⟨S', fun t ht => ?_⟩
    have e1 : b t - a t ≤ 0 := hf t ht
    have e2 : b (t + L) - a (t + L) ≤ 0 := hf (t + L) (by omega)
    have e3 := hb t (by omega)
    unfold minF; omega

/-- If a function grows by G in the end, and is a curve's, then it does so in each period behind tick 400. -/
theorem CanBe.late {F : Nat → Int} (h : CanBe F) {S L : Nat} {G : Int} (k : Per F S L G) : Per F 400 L G := by
  obtain ⟨s, p, c, hs, hp, hk⟩ := h.per
  exact (hk.any hp k).mono (by omega)

end Go.Proofs.Ythljhddnfflpjaa
