/- The mathematics of two curves that are compared at every tick. Nothing here speaks of the program. By the verifier's side. -/
import Derived.Test.YtjjaaknjdmijbaaQcCurMCurN
namespace Go.Proofs.Ytjjaaknjdmijbaa

/-- Exceeds: the first tick at which d is positive, or that there is none. -/
def ExcP (d : Nat → Int) (t : Int) (ok : Bool) : Prop :=
  (ok = true ∧ ∃ T : Nat, t = T ∧ 0 < d T ∧ ∀ u, u < T → d u ≤ 0) ∨ (ok = false ∧ t = 0 ∧ ∀ u, d u ≤ 0)
/-- Settles: the first tick from which on d is never positive, or that there is none. -/
def SetP (d : Nat → Int) (t : Int) (ok : Bool) : Prop :=
  (ok = true ∧ ∃ T : Nat, t = T ∧ (∀ u, T ≤ u → d u ≤ 0) ∧ (T = 0 ∨ 0 < d (T - 1))) ∨ (ok = false ∧ t = 0 ∧ ∀ T : Nat, ∃ u, T ≤ u ∧ 0 < d u)
/-- Meets: the first tick from which on d is 0, or that there is none. -/
def MeetP (d : Nat → Int) (t : Int) (ok : Bool) : Prop :=
  (ok = true ∧ ∃ T : Nat, t = T ∧ (∀ u, T ≤ u → d u = 0) ∧ (T = 0 ∨ ¬ d (T - 1) = 0)) ∨ (ok = false ∧ t = 0 ∧ ∀ T : Nat, ∃ u, T ≤ u ∧ ¬ d u = 0)

theorem ExcP.unique {d : Nat → Int} {t t' : Int} {ok ok' : Bool} (h : ExcP d t ok) (k : ExcP d t' ok') : t = t' ∧ ok = ok' := by
  rcases h with ⟨rfl, T, rfl, h1, h2⟩ | ⟨rfl, rfl, h1⟩ <;> rcases k with ⟨rfl, T', rfl, k1, k2⟩ | ⟨rfl, rfl, k1⟩
  · have : T = T' := by
      rcases Nat.lt_trichotomy T T' with hl | he | hl
      · have := k2 T hl; omega
      · exact he
      · have := h2 T' hl; omega
    exact ⟨by omega, rfl⟩
  · have := k1 T; omega
  · have := h1 T'; omega
  · exact ⟨rfl, rfl⟩

theorem SetP.unique {d : Nat → Int} {t t' : Int} {ok ok' : Bool} (h : SetP d t ok) (k : SetP d t' ok') : t = t' ∧ ok = ok' := by
  rcases h with ⟨rfl, T, rfl, h1, h2⟩ | ⟨rfl, rfl, h1⟩ <;> rcases k with ⟨rfl, T', rfl, k1, k2⟩ | ⟨rfl, rfl, k1⟩
  · have : T = T' := by
      rcases Nat.lt_trichotomy T T' with hl | he | hl
      · rcases k2 with k2 | k2
        · omega
        · have := h1 (T' - 1) (by omega); omega
      · exact he
      · rcases h2 with h2 | h2
        · omega
        · have := k1 (T - 1) (by omega); omega
    exact ⟨by omega, rfl⟩
  · obtain ⟨u, hu, hp⟩ := k1 T; have := h1 u hu; omega
  · obtain ⟨u, hu, hp⟩ := h1 T'; have := k1 u hu; omega
  · exact ⟨rfl, rfl⟩

theorem MeetP.unique {d : Nat → Int} {t t' : Int} {ok ok' : Bool} (h : MeetP d t ok) (k : MeetP d t' ok') : t = t' ∧ ok = ok' := by
  rcases h with ⟨rfl, T, rfl, h1, h2⟩ | ⟨rfl, rfl, h1⟩ <;> rcases k with ⟨rfl, T', rfl, k1, k2⟩ | ⟨rfl, rfl, k1⟩
  · have : T = T' := by
      rcases Nat.lt_trichotomy T T' with hl | he | hl
      · rcases k2 with k2 | k2
        · omega
        · exact absurd (h1 (T' - 1) (by omega)) k2
      · exact he
      · rcases h2 with h2 | h2
        · omega
        · exact absurd (k1 (T - 1) (by omega)) h2
    exact ⟨by omega, rfl⟩
  · obtain ⟨u, hu, hp⟩ := k1 T; exact absurd (h1 u hu) hp
  · obtain ⟨u, hu, hp⟩ := h1 T'; exact absurd (k1 u hu) hp
  · exact ⟨rfl, rfl⟩

/-- A tick behind the start, by its residue. -/
theorem tick_split {S L u : Nat} (hL : 1 ≤ L) (hu : S ≤ u) : ∃ r j, r < L ∧ u = S + r + j * L := by
  refine ⟨(u - S) % L, (u - S) / L, Nat.mod_lt _ hL, ?_⟩
  have := Nat.mod_add_div (u - S) L
  rw [Nat.mul_comm] at this
  omega

theorem Per.to {d : Nat → Int} {S L : Nat} {c : Int} (h : Per d S L c) (r j : Nat) : d (S + r + j * L) = d (S + r) + (j : Int) * c := h.mul j (S + r) (by omega)

/-- What the search from the start on has found after r residue classes: T is behind all positive ticks of these and of those before the start, and the last of them is there. -/
def SetI (d : Nat → Int) (S L r T : Nat) : Prop :=
  (∀ u, u < S → T ≤ u → d u ≤ 0) ∧ (∀ s j, s < r → T ≤ S + s + j * L → d (S + s + j * L) ≤ 0) ∧ (T = 0 ∨ 0 < d (T - 1))

theorem SetI.start {d : Nat → Int} {S L T : Nat} (h1 : ∀ u, u < S → T ≤ u → ¬ 0 < d u) (h2 : T = 0 ∨ 0 < d (T - 1)) : SetI d S L 0 T :=
  ⟨fun u hu ht => by have := h1 u hu ht; omega, fun s j hs => absurd hs (Nat.not_lt_zero _), h2⟩

theorem SetI.done {d : Nat → Int} {S L T : Nat} (hL : 1 ≤ L) (h : SetI d S L L T) : SetP d T true := by
  obtain ⟨h1, h2, h3⟩ := h
  refine .inl ⟨rfl, T, rfl, fun u hu => ?_, h3⟩
  by_cases hlt : u < S
  · exact h1 u hlt hu
  · obtain ⟨r, j, hr, rfl⟩ := tick_split (S := S) hL (show S ≤ u by omega)
    exact h2 r j hr hu

/-! ## Two curves -/

/-- A curve that is not finite. -/
def InfC (zs : List Int) : Prop := zs.getD (zs.length - 1) 0 = infV
theorem infC_iff (zs : List Int) : InfC zs ↔ zs.getD (zs.length - 1) 0 = infV := Iff.rfl

section
variable {zs ys : List Int} {p q : Nat} {inc jnc : Int}

/-- A value of an infinite curve is infinite or small. -/
theorem Good.inf_small (g : Good zs p inc) (hi : InfC zs) (t : Nat) : atC zs p inc t = infV ∨ (0 ≤ atC zs p inc t ∧ atC zs p inc t ≤ 1073741824) := by
  have h3 := g.p3; have h1 := g.p1
  by_cases ht : t < zs.length
  · rw [atC_lt ht]
    rcases g.val t ht with h | h
    · exact .inr h
    · exact .inl h
  · exact .inl (atC_inf hi (by omega) (by omega))

/-- A multiple of both periods. -/
structure Lcm (p q L : Nat) : Prop where
  one : 1 ≤ L
  le : L ≤ p * q
  dp : L / p * p = L
  dq : L / q * q = L

theorem lcm_of (hp : 1 ≤ p) (hq : 1 ≤ q) {L : Nat} (h : p / Nat.gcd p q * q = L) : Lcm p q L := by
  have hg := Nat.gcd_pos_of_pos_left q (show 0 < p by omega)
  obtain ⟨x, hx⟩ := Nat.gcd_dvd_left p q
  obtain ⟨y, hy⟩ := Nat.gcd_dvd_right p q
  have e1 : p / Nat.gcd p q = x := by
    have : Nat.gcd p q * x / Nat.gcd p q = x := Nat.mul_div_cancel_left x hg
    rwa [← hx] at this
  rw [e1] at h
  have hLp : L = y * p := by
    rw [← h]
    have k1 : x * (Nat.gcd p q * y) = y * (Nat.gcd p q * x) := by rw [Nat.mul_left_comm, Nat.mul_left_comm y, Nat.mul_comm x y]
    rw [← hy, ← hx] at k1; exact k1
  have hx1 : 1 ≤ x := by
    rcases Nat.eq_zero_or_pos x with h0 | h0
    · rw [h0] at hx; omega
    · exact h0
  have hxp : x ≤ p := by rw [← e1]; exact Nat.div_le_self _ _
  refine ⟨?_, ?_, ?_, ?_⟩
  · rw [← h]; exact Nat.mul_pos hx1 hq
  · rw [← h]; exact Nat.mul_le_mul_right q hxp
  · rw [hLp, Nat.mul_div_cancel _ (by omega)]
  · rw [← h, Nat.mul_div_cancel _ (by omega)]

/-- All three answers exist, whatever the difference is. -/
theorem least_ex {P : Nat → Prop} (h : ∃ n, P n) : ∃ n, P n ∧ ∀ m, m < n → ¬ P m := by
  obtain ⟨n, hn⟩ := h
  induction n using Nat.strongRecOn with
  | ind n ih =>
    by_cases hx : ∃ m, m < n ∧ P m
    · obtain ⟨m, hm, hp⟩ := hx; exact ih m hm hp
    · exact ⟨n, hn, fun m hm hp => hx ⟨m, hm, hp⟩⟩

end
end Go.Proofs.Ytjjaaknjdmijbaa
