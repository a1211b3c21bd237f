/- What Best answers, of a list of paces; what Chain and Wait answer: the answers that program and document share. By the verifier's side. -/
import Derived.Test.YtjipmkgnndldpaaEBkLBkNBkO
import Derived.Test.YtjipmkgnndldpaaESvASvB
namespace Go.Proofs.Ytjipmkgnndldpaa
open Go.RowKit
set_option linter.unusedSimpArgs false
set_option linter.unusedVariables false

/-- What Maximum answers, of two valid curves. -/
def MaxIs (z1 : List Int) (p1 : Nat) (i1 : Int) (z2 : List Int) (p2 : Nat) (i2 : Int) (zs : List Int) (p inc c : Int) : Prop :=
  ∃ L, LcmN z1 p1 i1 z2 p2 i2 L ∧ ((L ≤ 120 ∧ EIs (eMax z1 p1 i1 z2 p2 i2) zs p inc c) ∨ (120 < L ∧ c = 3 ∧ zs = [] ∧ p = 0 ∧ inc = 0))
theorem maxIs_ex {z1 : List Int} {p1 : Nat} {i1 : Int} {z2 : List Int} {p2 : Nat} {i2 : Int} (g1 : Good z1 p1 i1) (g2 : Good z2 p2 i2) : ∃ (zs : List Int) (p inc c : Int), MaxIs z1 p1 i1 z2 p2 i2 zs p inc c := by
  obtain ⟨y1, q1, j1, m1⟩ := g1.norm_ex
  obtain ⟨y2, q2, j2, m2⟩ := g2.norm_ex
  by_cases h : q1 / Nat.gcd q1 q2 * q2 ≤ 120
  · obtain ⟨zs, p, inc, c, k⟩ := eis_ex (eMax z1 p1 i1 z2 p2 i2)
    exact ⟨zs, p, inc, c, _, ⟨_, _, _, _, _, _, m1, m2, rfl⟩, .inl ⟨h, k⟩⟩
  · exact ⟨[], 0, 0, 3, _, ⟨_, _, _, _, _, _, m1, m2, rfl⟩, .inr ⟨by omega, rfl, rfl, rfl, rfl⟩⟩

/-- A curve, or the zero curve and the error of a limit. -/
def Rs.ok3 (r : Rs) : Prop := (r.c = 0 ∧ ∃ q : Nat, r.p = q ∧ Good r.zs q r.inc) ∨ r = ⟨[], 0, 0, 3⟩
def Rs.lim : Rs := ⟨[], 0, 0, 3⟩
theorem Rs.ok3.of {r : Rs} (h : r.ok3) (hc : ¬ r.c = 0) : r = Rs.lim := by
  rcases h with ⟨h, _⟩ | h
  · exact absurd h hc
  · exact h
theorem EIs.ok3 {E : Nat → Option Int} {zs : List Int} {p inc c : Int} (h : EIs E zs p inc c) : Rs.ok3 ⟨zs, p, inc, c⟩ := by
  rcases h with ⟨rfl, q, rfl, hf⟩ | ⟨rfl, rfl, rfl, rfl, _⟩
  · exact .inl ⟨rfl, q, rfl, hf.good⟩
  · exact .inr rfl

/-- What a pace's curve is. -/
def Rs.Pac (b : Bkt) (r : Rs) : Prop := PacIs b.bn.toNat b.bd.toNat b.rn.toNat b.rd.toNat r.zs r.p r.inc r.c
theorem Rs.Pac.ok {b : Bkt} {r : Rs} (h : Rs.Pac b r) : r.ok3 := by
  rcases h with ⟨_, h⟩ | ⟨_, _, h1, h2, h3, h4⟩
  · exact h.ok3
  · obtain ⟨zs, p, inc, c⟩ := r
    cases h1; cases h2; cases h3; cases h4
    exact .inr rfl
noncomputable def pacA (b : Bkt) : Rs :=
  have h : ∃ r, Rs.Pac b r := by
    obtain ⟨zs, p, inc, c, h⟩ := pacIs_ex b.bn.toNat b.bd.toNat b.rn.toNat b.rd.toNat
    exact ⟨⟨zs, p, inc, c⟩, h⟩
  Classical.choose h
theorem pacA_is (b : Bkt) : Rs.Pac b (pacA b) := Classical.choose_spec (p := fun r => Rs.Pac b r) _
def Rs.Max (r s t : Rs) : Prop := ∀ (p q : Nat), r.p = p → s.p = q → Good r.zs p r.inc → Good s.zs q s.inc → MaxIs r.zs p r.inc s.zs q s.inc t.zs t.p t.inc t.c
theorem max_exR (r s : Rs) : ∃ t, Rs.Max r s t := by
  by_cases h : (∃ p : Nat, r.p = p ∧ Good r.zs p r.inc) ∧ ∃ q : Nat, s.p = q ∧ Good s.zs q s.inc
  · obtain ⟨⟨p, hp, g1⟩, q, hq, g2⟩ := h
    obtain ⟨zs, p', inc, c, h⟩ := maxIs_ex g1 g2
    refine ⟨⟨zs, p', inc, c⟩, fun p2 q2 h1 h2 _ _ => ?_⟩
    obtain rfl : p2 = p := by rw [hp] at h1; exact (Int.ofNat.inj h1).symm
    obtain rfl : q2 = q := by rw [hq] at h2; exact (Int.ofNat.inj h2).symm
    exact h
  · exact ⟨r, fun p q h1 h2 g1 g2 => absurd ⟨⟨p, h1, g1⟩, q, h2, g2⟩ h⟩
noncomputable def maxA (r s : Rs) : Rs := Classical.choose (max_exR r s)
theorem maxA_is (r s : Rs) : Rs.Max r s (maxA r s) := Classical.choose_spec (max_exR r s)
theorem maxA_ok {r s : Rs} {p q : Nat} (h1 : r.p = p) (h2 : s.p = q) (g1 : Good r.zs p r.inc) (g2 : Good s.zs q s.inc) : (maxA r s).ok3 := by
  obtain ⟨L, _, ⟨_, hE⟩ | ⟨_, k1, k2, k3, k4⟩⟩ := maxA_is r s p q h1 h2 g1 g2
  · exact hE.ok3
  · refine .inr ?_
    generalize maxA r s = t at *
    obtain ⟨zs, p, inc, c⟩ := t
    cases k1; cases k2; cases k3; cases k4
    rfl

/-- The Maximum of the first k + 1 curves, up to the first limit. -/
noncomputable def foldM (rs : List Rs) : Nat → Rs
  | 0 => rs.getD 0 Rs.lim
  | k + 1 => open Classical in if (foldM rs k).c = 0 then maxA (foldM rs k) (rs.getD (k + 1) Rs.lim) else Rs.lim
/-- All of a list are curves. -/
def AllC (rs : List Rs) : Prop := ∀ (i : Nat) (r : Rs), rs[i]? = some r → r.c = 0 ∧ ∃ q : Nat, r.p = q ∧ Good r.zs q r.inc
theorem AllC.getD {rs : List Rs} (h : AllC rs) {i : Nat} (hi : i < rs.length) : (rs.getD i Rs.lim).c = 0 ∧ ∃ q : Nat, (rs.getD i Rs.lim).p = q ∧ Good (rs.getD i Rs.lim).zs q (rs.getD i Rs.lim).inc := by
  have e : rs.getD i Rs.lim = rs[i] := by rw [List.getD_eq_getElem?_getD, List.getElem?_eq_getElem hi]; rfl
  rw [e]
  exact h i _ (List.getElem?_eq_getElem hi)
theorem foldM_ok {rs : List Rs} (h : AllC rs) : ∀ k, k < rs.length → (foldM rs k).ok3
  | 0, hk => .inl (h.getD hk)
  | k + 1, hk => by
    unfold foldM
    split
    · rename_i hc
      rcases foldM_ok h k (by omega) with ⟨_, p, hp, g1⟩ | he
      · obtain ⟨_, q, hq, g2⟩ := h.getD hk
        exact maxA_ok hp hq g1 g2
      · rw [he] at hc; cases hc
    · exact .inr rfl

/-- What Best answers. -/
noncomputable def bestA (bs : List Bkt) : Rs :=
  open Classical in if bs.length = 0 then ⟨[], 0, 0, 2⟩ else if 20 < bs.length then Rs.lim else if badL bs = true then ⟨[], 0, 0, 2⟩ else
    if (∃ b ∈ bs, ¬ (pacA b).c = 0) then Rs.lim else foldM (bs.map pacA) (bs.length - 1)
theorem bestA_zero {bs : List Bkt} (h : bs.length = 0) : bestA bs = ⟨[], 0, 0, 2⟩ := by unfold bestA; rw [if_pos h]
theorem bestA_long {bs : List Bkt} (h : 20 < bs.length) : bestA bs = Rs.lim := by unfold bestA; rw [if_neg (by omega), if_pos h]
theorem bestA_bad {bs : List Bkt} (h0 : ¬ bs.length = 0) (h1 : ¬ 20 < bs.length) (h : badL bs = true) : bestA bs = ⟨[], 0, 0, 2⟩ := by unfold bestA; rw [if_neg h0, if_neg h1, if_pos h]
theorem bestA_lim {bs : List Bkt} (h0 : ¬ bs.length = 0) (h1 : ¬ 20 < bs.length) (h : badL bs = false) {i : Nat} {b : Bkt} (hi : bs[i]? = some b) (hb : ¬ (pacA b).c = 0) : bestA bs = Rs.lim := by
  unfold bestA; rw [if_neg h0, if_neg h1, if_neg (by rw [h]; decide), if_pos ⟨b, List.mem_of_getElem? hi, hb⟩]
theorem bestA_fold {bs : List Bkt} (h0 : ¬ bs.length = 0) (h1 : ¬ 20 < bs.length) (h : badL bs = false) (hb : ∀ (i : Nat) (b : Bkt), bs[i]? = some b → (pacA b).c = 0) : bestA bs = foldM (bs.map pacA) (bs.length - 1) := by
  unfold bestA; rw [if_neg h0, if_neg h1, if_neg (by rw [h]; decide), if_neg]
  rintro ⟨b, hm, hc⟩
  obtain ⟨i, hi, he⟩ := List.mem_iff_getElem.1 hm
  exact hc (hb i b (by rw [← he]; exact List.getElem?_eq_getElem hi))
theorem allC_map {bs : List Bkt} (hb : ∀ (i : Nat) (b : Bkt), bs[i]? = some b → (pacA b).c = 0) : AllC (bs.map pacA) := fun i r hr => by
  rw [List.getElem?_map] at hr
  cases hi : bs[i]? with
  | none => rw [hi] at hr; cases hr
  | some b =>
    rw [hi] at hr
    obtain rfl : pacA b = r := Option.some.inj hr
    rcases (pacA_is b).ok with h | h
    · exact h
    · have := hb i b hi; rw [h] at this; cases this
theorem getD_some {bs : List Bkt} {i : Nat} {b : Bkt} (h : bs[i]? = some b) : bs.getD i default = b := by rw [List.getD_eq_getElem?_getD, h]; rfl
/-! ## Chain and Wait -/

/-- A pace and an error. -/
structure Pk where
  rn : Int
  rd : Int
  ln : Int
  ld : Int
  c : Int
/-- Two servers one after the other. -/
def linkA (a : Pk) (b : Bkt) : Pk :=
  let s := addF a.ln a.ld b.rn b.rd
  if s.2.2 = 0 then (if compareF b.bn b.bd a.rn a.rd < 0 then ⟨b.bn, b.bd, s.1, s.2.1, 0⟩ else ⟨a.rn, a.rd, s.1, s.2.1, 0⟩) else ⟨0, 0, 0, 0, s.2.2⟩
def stepA (a : Pk) (b : Bkt) : Pk := if a.c = 0 then linkA a b else a
def chainF (bs : List Bkt) : Nat → Pk
  | 0 => ⟨(bs.getD 0 default).bn, (bs.getD 0 default).bd, (bs.getD 0 default).rn, (bs.getD 0 default).rd, 0⟩
  | k + 1 => stepA (chainF bs k) (bs.getD (k + 1) default)
theorem chainF_stop {bs : List Bkt} {k : Nat} (h : ¬ (chainF bs k).c = 0) : ∀ j, chainF bs (k + j) = chainF bs k
  | 0 => rfl
  | j + 1 => by
    show stepA (chainF bs (k + j)) _ = _
    rw [chainF_stop h j]
    unfold stepA
    rw [if_neg h]
/-- What Chain answers. -/
def chainA (bs : List Bkt) : Pk := if bs.length = 0 then ⟨0, 0, 0, 0, 2⟩ else if badL bs = true then ⟨0, 0, 0, 0, 2⟩ else chainF bs (bs.length - 1)
theorem chainA_zero {bs : List Bkt} (h : bs.length = 0) : chainA bs = ⟨0, 0, 0, 0, 2⟩ := by unfold chainA; rw [if_pos h]
theorem chainA_bad {bs : List Bkt} (h : badL bs = true) : chainA bs = ⟨0, 0, 0, 0, 2⟩ := by unfold chainA; rw [if_pos h]; split <;> rfl
theorem chainA_fold {bs : List Bkt} (h0 : ¬ bs.length = 0) (h : badL bs = false) : chainA bs = chainF bs (bs.length - 1) := by unfold chainA; rw [if_neg h0, if_neg (by rw [h]; decide)]

/-- The wait of a bucket (burst bn / bd, rate an / ad) at a pace, without the tests. -/
def waitS (bn bd rn rd ln ld : Int) : Int × Int × Int :=
  let x := divF bn bd rn rd
  if x.2.2 = 0 then
    let y := addF x.1 x.2.1 ln ld
    if y.2.2 = 0 then
      let z := subF y.1 y.2.1 1 1
      if z.2.2 = 0 ∧ z.1 < 0 then (0, 1, 0) else z
    else y
  else x
/-- What Wait answers. -/
def waitA (bn bd an ad rn rd ln ld : Int) : Int × Int × Int :=
  if (okB bn bd && okB an ad && (okB rn rd && okB ln ld)) = true then (if rn = 0 ∨ 0 < compareF an ad rn rd then (0, 0, 5) else waitS bn bd rn rd ln ld) else (0, 0, 2)

end Go.Proofs.Ytjipmkgnndldpaa
