/- What Best answers, of a list of paces; what Chain and Wait answer: the answers that program and document share. By the verifier's side. -/
import Derived.Test.YtjipmkgnndldpaaEBkLBkNBkO
import Derived.Test.YtjipmkgnndldpaaESvASvB
import Derived.Test.YtjipmkgnndldpaaEBkFSvFSvG
namespace Go.Proofs.Ytjipmkgnndldpaa
open Go.RowKit
set_option linter.unusedSimpArgs false
set_option linter.unusedVariables false

/-- What Maximum answers, of two valid curves. -/
def MaxIs (z1 : List Int) (p1 : Nat) (i1 : Int) (z2 : List Int) (p2 : Nat) (i2 : Int) (zs : List Int) (p inc c : Int) : Prop :=
  ∃ L, LcmN z1 p1 i1 z2 p2 i2 L ∧ ((L ≤ 120 ∧ EIs (eMax z1 p1 i1 z2 p2 i2) zs p inc c) ∨ (120 < L ∧ c = 3 ∧ zs = [] ∧ p = 0 ∧ inc = 0))
theorem maxIs_ex {z1 : List Int} {p1 : Nat} {i1 : Int} {z2 : List Int} {p2 : Nat} {i2 : Int} (g1 : Good z1 p1 i1) (g2 : Good z2 p2 i2) : ∃ (zs : List Int) (p inc c : Int), MaxIs z1 p1 i1 z2 p2 i2 zs p inc c := by
  obtain ⟨y1, q1, j1, m1⟩ := g1.norm_ex
  obtain ⟨y2, q2, j2, m2⟩ := g2.norm_ex
  by_cases h : q1 / Nat.gcd q1 q2 * q2 ≤ 120
  · obtain ⟨zs, p, inc, c, k⟩ := eis_ex (eMax z1 p1 i1 z2 p2 i2)
    exact ⟨zs, p, inc, c, _, ⟨_, _, _, _, _, _, m1, m2, rfl⟩, .inl ⟨h, k⟩⟩
  · exact ⟨[], 0, 0, 3, _, ⟨_, _, _, _, _, _, m1, m2, rfl⟩, .inr ⟨by omega, rfl, rfl, rfl, rfl⟩⟩

/-- A curve, or the zero curve and the error of a limit. -/
def Rs.ok3 (r : Rs) : Prop := (r.c = 0 ∧ ∃ q : Nat, r.p = q ∧ Good r.zs q r.inc) ∨ r = ⟨[], 0, 0, 3⟩
def Rs.lim : Rs := ⟨[], 0, 0, 3⟩
theorem Rs.ok3.of {r : Rs} (h : r.ok3) (hc : ¬ r.c = 0) : r = Rs.lim := by
  rcases h with ⟨h, _⟩ | h
  · exact absurd h hc
  · exact h
theorem EIs.ok3 {E : Nat → Option Int} {zs : List Int} {p inc c : Int} (h : EIs E zs p inc c) : Rs.ok3 ⟨zs, p, inc, c⟩ := by
  rcases h with ⟨rfl, q, rfl, hf⟩ | ⟨rfl, rfl, rfl, rfl, _⟩
  · exact .inl ⟨rfl, q, rfl, hf.good⟩
  · exact .inr rfl

/-- What a pace's curve is. -/
def Rs.Pac (b : Bkt) (r : Rs) : Prop := PacIs b.bn.toNat b.bd.toNat b.rn.toNat b.rd.toNat r.zs r.p r.inc r.c
theorem Rs.Pac.ok {b : Bkt} {r : Rs} (h : Rs.Pac b r) : r.ok3 := by
  rcases h with ⟨_, h⟩ | ⟨_, _, h1, h2, h3, h4⟩
  · exact h.ok3
  · obtain ⟨zs, p, inc, c⟩ := r
    cases h1; cases h2; cases h3; cases h4
    exact .inr rfl
noncomputable def pacA (b : Bkt) : Rs :=
  have h : ∃ r, Rs.Pac b r := by
    obtain ⟨zs, p, inc, c, h⟩ := pacIs_ex b.bn.toNat b.bd.toNat b.rn.toNat b.rd.toNat
    exact ⟨⟨zs, p, inc, c⟩, h⟩
  Classical.choose h
theorem pacA_is (b : Bkt) : Rs.Pac b (pacA b) := Classical.choose_spec (p := fun r => Rs.Pac b r) _
def Rs.Max (r s t : Rs) : Prop := ∀ (p q : Nat), r.p = p → s.p = q → Good r.zs p r.inc → Good s.zs q s.inc → MaxIs r.zs p r.inc s.zs q s.inc t.zs t.p t.inc t.c
theorem max_exR (r s : Rs) : ∃ t, Rs.Max r s t := by
  by_cases h : (∃ p : Nat, r.p = p ∧ Good r.zs p r.inc) ∧ ∃ q : Nat, s.p = q ∧ Good s.zs q s.inc
  · obtain ⟨⟨p, hp, g1⟩, q, hq, g2⟩ := h
    obtain ⟨zs, p', inc, c, h⟩ := maxIs_ex g1 g2
    refine ⟨⟨zs, p', inc, c⟩, fun p2 q2 h1 h2 _ _ => ?_⟩
    obtain rfl : p2 = p := by rw [hp] at h1; exact (Int.ofNat.inj h1).symm
    obtain rfl : q2 = q := by rw [hq] at h2; exact (Int.ofNat.inj h2).symm
    exact h
  · exact ⟨r, fun p q h1 h2 g1 g2 => absurd ⟨⟨p, h1, g1⟩, q, h2, g2⟩ h⟩
noncomputable def maxA (r s : Rs) : Rs := Classical.choose (max_exR r s)
theorem maxA_is (r s : Rs) : Rs.Max r s (maxA r s) := Classical.choose_spec (max_exR r s)
theorem maxA_ok {r s : Rs} {p q : Nat} (h1 : r.p = p) (h2 : s.p = q) (g1 : Good r.zs p r.inc) (g2 : Good s.zs q s.inc) : (maxA r s).ok3 := by
  obtain ⟨L, _, ⟨_, hE⟩ | ⟨_, k1, k2, k3, k4⟩⟩ := maxA_is r s p q h1 h2 g1 g2
  · exact hE.ok3
  · refine .inr ?_
    generalize maxA r s = t at *
    obtain ⟨zs, p, inc, c⟩ := t
    cases k1; cases k2; cases k3; cases k4
    rfl

/-- The Maximum of the first k + 1 curves, up to the first limit. -/
noncomputable def foldM (rs : List Rs) : Nat → Rs
  | 0 => rs.getD 0 Rs.lim
  | k + 1 => open Classical in if (foldM rs k).c = 0 then maxA (foldM rs k) (rs.getD (k + 1) Rs.lim) else Rs.lim
/-- All of a list are curves. -/
def AllC (rs : List Rs) : Prop := ∀ (i : Nat) (r : Rs), rs[i]? = some r → r.c = 0 ∧ ∃ q : Nat, r.p = q ∧ Good r.zs q r.inc
theorem AllC.getD {rs : List Rs} (h : AllC rs) {i : Nat} (hi : i < rs.length) : (rs.getD i Rs.lim).c = 0 ∧ ∃ q : Nat, (rs.getD i Rs.lim).p = q ∧ Good (rs.getD i Rs.lim).zs q (rs.getD i Rs.lim).inc := by
  have e : rs.getD i Rs.lim = rs[i] := by rw [List.getD_eq_getElem?_getD, List.getElem?_eq_getElem hi]; rfl
  rw [e]
  exact h i _ (List.getElem?_eq_getElem hi)
theorem foldM_ok {rs : List Rs} (h : AllC rs) : ∀ k, k < rs.length → (foldM rs k).ok3
  | 0, hk => .inl (h.getD hk)
  | k + 1, hk => by
    unfold foldM
    split
    · rename_i hc
      rcases foldM_ok h k (by omega) with ⟨_, p, hp, g1⟩ | he
      · obtain ⟨_, q, hq, g2⟩ := h.getD hk
        exact maxA_ok hp hq g1 g2
      · rw [he] at hc; cases hc
    · exact .inr rfl

/-- What Best answers. -/
noncomputable def bestA (bs : List Bkt) : Rs :=
  open Classical in if bs.length = 0 then ⟨[], 0, 0, 2⟩ else if 20 < bs.length then Rs.lim else if badL bs = true then ⟨[], 0, 0, 2⟩ else
    if (∃ b ∈ bs, ¬ (pacA b).c = 0) then Rs.lim else foldM (bs.map pacA) (bs.length - 1)
theorem bestA_zero {bs : List Bkt} (h : bs.length = 0) : bestA bs = ⟨[], 0, 0, 2⟩ := by unfold bestA; rw [if_pos h]
theorem bestA_long {bs : List Bkt} (h : 20 < bs.length) : bestA bs = Rs.lim := by unfold bestA; rw [if_neg (by omega), if_pos h]
theorem bestA_bad {bs : List Bkt} (h0 : ¬ bs.length = 0) (h1 : ¬ 20 < bs.length) (h : badL bs = true) : bestA bs = ⟨[], 0, 0, 2⟩ := by unfold bestA; rw [if_neg h0, if_neg h1, if_pos h]
theorem bestA_lim {bs : List Bkt} (h0 : ¬ bs.length = 0) (h1 : ¬ 20 < bs.length) (h : badL bs = false) {i : Nat} {b : Bkt} (hi : bs[i]? = some b) (hb : ¬ (pacA b).c = 0) : bestA bs = Rs.lim := by
  unfold bestA; rw [if_neg h0, if_neg h1, if_neg (by rw [h]; decide), if_pos ⟨b, List.mem_of_getElem? hi, hb⟩]
theorem bestA_fold {bs : List Bkt} (h0 : ¬ bs.length = 0) (h1 : ¬ 20 < bs.length) (h : badL bs = false) (hb : ∀ (i : Nat) (b : Bkt), bs[i]? = some b → (pacA b).c = 0) : bestA bs = foldM (bs.map pacA) (bs.length - 1) := by
  unfold bestA; rw [if_neg h0, if_neg h1, if_neg (by rw [h]; decide), if_neg]
  rintro ⟨b, hm, hc⟩
  obtain ⟨i, hi, he⟩ := List.mem_iff_getElem.1 hm
  exact hc (hb i b (by rw [← he]; exact List.getElem?_eq_getElem hi))
theorem allC_map {bs : List Bkt} (hb : ∀ (i : Nat) (b : Bkt), bs[i]? = some b → (pacA b).c = 0) : AllC (bs.map pacA) := fun i r hr => by
  rw [List.getElem?_map] at hr
  cases hi : bs[i]? with
  | none => rw [hi] at hr; cases hr
  | some b =>
    rw [hi] at hr
    obtain rfl : pacA b = r := Option.some.inj hr
    rcases (pacA_is b).ok with h | h
    · exact h
    · have := hb i b hi; rw [h] at this; cases this
/-- The document's way: each curve as it is asked for. -/
noncomputable def docM (bs : List Bkt) : Nat → Rs
  | 0 => pacA (bs.getD 0 default)
  | k + 1 => open Classical in if (docM bs k).c = 0 then (if (pacA (bs.getD (k + 1) default)).c = 0 then maxA (docM bs k) (pacA (bs.getD (k + 1) default)) else Rs.lim) else Rs.lim
theorem getD_some {bs : List Bkt} {i : Nat} {b : Bkt} (h : bs[i]? = some b) : bs.getD i default = b := by rw [List.getD_eq_getElem?_getD, h]; rfl
theorem docM_ok (bs : List Bkt) : ∀ k, (docM bs k).ok3
  | 0 => (pacA_is _).ok
  | k + 1 => by
    unfold docM
    split
    · rename_i hc
      split
      · rename_i hc2
        rcases docM_ok bs k with ⟨_, p, hp, g1⟩ | he
        · rcases (pacA_is (bs.getD (k + 1) default)).ok with ⟨_, q, hq, g2⟩ | he2
          · exact maxA_ok hp hq g1 g2
          · rw [he2] at hc2; cases hc2
        · rw [he] at hc; cases hc
      · exact .inr rfl
    · exact .inr rfl
theorem docM_lim {bs : List Bkt} {i : Nat} {b : Bkt} (hi : bs[i]? = some b) (hb : ¬ (pacA b).c = 0) : ∀ k, i ≤ k → docM bs k = Rs.lim
  | 0, hk => by
    obtain rfl : i = 0 := by omega
    unfold docM
    rw [getD_some hi]
    exact (pacA_is b).ok.of hb
  | k + 1, hk => by
    unfold docM
    by_cases he : i = k + 1
    · subst he
      rw [getD_some hi, if_neg hb]
      split <;> rfl
    · rw [docM_lim hi hb k (by omega), if_neg (by decide)]
theorem docM_fold {bs : List Bkt} (hb : ∀ (i : Nat) (b : Bkt), bs[i]? = some b → (pacA b).c = 0) : ∀ k, k < bs.length → docM bs k = foldM (bs.map pacA) k
  | 0, hk => by
    unfold docM foldM
    obtain ⟨b, hc⟩ : ∃ b, bs[0]? = some b := ⟨_, List.getElem?_eq_getElem hk⟩
    rw [getD_some hc, List.getD_eq_getElem?_getD, List.getElem?_map, hc]; rfl
  | k + 1, hk => by
    obtain ⟨b, hc⟩ : ∃ b, bs[k + 1]? = some b := ⟨_, List.getElem?_eq_getElem hk⟩
    unfold docM foldM
    rw [docM_fold hb k (by omega), getD_some hc, List.getD_eq_getElem?_getD, List.getElem?_map, hc, if_pos (hb _ _ hc)]
    rfl
theorem bestA_doc {bs : List Bkt} (h0 : ¬ bs.length = 0) (h1 : ¬ 20 < bs.length) (h : badL bs = false) : docM bs (bs.length - 1) = bestA bs := by
  by_cases hb : ∀ (i : Nat) (b : Bkt), bs[i]? = some b → (pacA b).c = 0
  · rw [bestA_fold h0 h1 h hb, docM_fold hb _ (by omega)]
  · have hx : ∃ (i : Nat) (b : Bkt), bs[i]? = some b ∧ ¬ (pacA b).c = 0 := Classical.byContradiction fun hn => hb fun i b hi => Classical.byContradiction fun hc => hn ⟨i, b, hi, hc⟩
    obtain ⟨i, b, hi, hc⟩ := hx
    rw [bestA_lim h0 h1 h hi hc, docM_lim hi hc]
    have := (List.getElem?_eq_some_iff.1 hi).1
    omega

/-! ## Chain and Wait -/

/-- A pace and an error. -/
structure Pk where
  rn : Int
  rd : Int
  ln : Int
  ld : Int
  c : Int
/-- Two servers one after the other. -/
def linkA (a : Pk) (b : Bkt) : Pk :=
  let s := addF a.ln a.ld b.rn b.rd
  if s.2.2 = 0 then (if compareF b.bn b.bd a.rn a.rd < 0 then ⟨b.bn, b.bd, s.1, s.2.1, 0⟩ else ⟨a.rn, a.rd, s.1, s.2.1, 0⟩) else ⟨0, 0, 0, 0, s.2.2⟩
def stepA (a : Pk) (b : Bkt) : Pk := if a.c = 0 then linkA a b else a
def chainF (bs : List Bkt) : Nat → Pk
  | 0 => ⟨(bs.getD 0 default).bn, (bs.getD 0 default).bd, (bs.getD 0 default).rn, (bs.getD 0 default).rd, 0⟩
  | k + 1 => stepA (chainF bs k) (bs.getD (k + 1) default)
theorem chainF_stop {bs : List Bkt} {k : Nat} (h : ¬ (chainF bs k).c = 0) : ∀ j, chainF bs (k + j) = chainF bs k
  | 0 => rfl
  | j + 1 => by
    show stepA (chainF bs (k + j)) _ = _
    rw [chainF_stop h j]
    unfold stepA
    rw [if_neg h]
/-- What Chain answers. -/
def chainA (bs : List Bkt) : Pk := if bs.length = 0 then ⟨0, 0, 0, 0, 2⟩ else if badL bs = true then ⟨0, 0, 0, 0, 2⟩ else chainF bs (bs.length - 1)
theorem chainA_zero {bs : List Bkt} (h : bs.length = 0) : chainA bs = ⟨0, 0, 0, 0, 2⟩ := by unfold chainA; rw [if_pos h]
theorem chainA_bad {bs : List Bkt} (h : badL bs = true) : chainA bs = ⟨0, 0, 0, 0, 2⟩ := by unfold chainA; rw [if_pos h]; split <;> rfl
theorem chainA_fold {bs : List Bkt} (h0 : ¬ bs.length = 0) (h : badL bs = false) : chainA bs = chainF bs (bs.length - 1) := by unfold chainA; rw [if_neg h0, if_neg (by rw [h]; decide)]

/-- The wait of a bucket (burst bn / bd, rate an / ad) at a pace, without the tests. -/
def waitS (bn bd rn rd ln ld : Int) : Int × Int × Int :=
  let x := divF bn bd rn rd
  if x.2.2 = 0 then
    let y := addF x.1 x.2.1 ln ld
    if y.2.2 = 0 then
      let z := subF y.1 y.2.1 1 1
      if z.2.2 = 0 ∧ z.1 < 0 then (0, 1, 0) else z
    else y
  else x
/-- What Wait answers. -/
def waitA (bn bd an ad rn rd ln ld : Int) : Int × Int × Int :=
  if (okB bn bd && okB an ad && (okB rn rd && okB ln ld)) = true then (if rn = 0 ∨ 0 < compareF an ad rn rd then (0, 0, 5) else waitS bn bd rn rd ln ld) else (0, 0, 2)

end Go.Proofs.Ytjipmkgnndldpaa

namespace Go.Proofs.Ytjipmkgnndldpaa
open Go.RowKit
set_option linter.unusedSimpArgs false
set_option linter.unusedVariables false

/-- Four numbers in a block of their own. -/
structure Pq4 (w : World) (p : Nat) (x0 x1 x2 x3 : Int) : Prop where
  c0 : w.cell? ⟨p, 0, none⟩ = some (.int .i64 x0)
  c1 : w.cell? ⟨p, 1, none⟩ = some (.int .i64 x1)
  c2 : w.cell? ⟨p, 2, none⟩ = some (.int .i64 x2)
  c3 : w.cell? ⟨p, 3, none⟩ = some (.int .i64 x3)
  f0 : w.frozen? ⟨p, 0, none⟩ = false
  f1 : w.frozen? ⟨p, 1, none⟩ = false
  f2 : w.frozen? ⟨p, 2, none⟩ = false
  f3 : w.frozen? ⟨p, 3, none⟩ = false
theorem Pq4.lt {w : World} {p : Nat} {x0 x1 x2 x3 : Int} (h : Pq4 w p x0 x1 x2 x3) : p < w.heap.size := lt_of_cell h.c0
theorem Pq4.below {w w' : World} {p : Nat} {x0 x1 x2 x3 : Int} (h : Pq4 w p x0 x1 x2 x3) (hb : Below w.heap.size w w') : Pq4 w' p x0 x1 x2 x3 :=
  ⟨(hb.cell (p := ⟨p, 0, none⟩) h.lt).trans h.c0, (hb.cell (p := ⟨p, 1, none⟩) h.lt).trans h.c1, (hb.cell (p := ⟨p, 2, none⟩) h.lt).trans h.c2, (hb.cell (p := ⟨p, 3, none⟩) h.lt).trans h.c3,
   (hb.frozen (p := ⟨p, 0, none⟩) h.lt).trans h.f0, (hb.frozen (p := ⟨p, 1, none⟩) h.lt).trans h.f1, (hb.frozen (p := ⟨p, 2, none⟩) h.lt).trans h.f2, (hb.frozen (p := ⟨p, 3, none⟩) h.lt).trans h.f3⟩
theorem Pq4.alloc {w : World} {p : Nat} {x0 x1 x2 x3 : Int} (h : Pq4 w p x0 x1 x2 x3) (o : Obj) : Pq4 (w.alloc o) p x0 x1 x2 x3 := h.below ((Below.refl _ _).alloc (Nat.le_refl _) o)
theorem Pq4.new (w : World) (x0 x1 x2 x3 : Int) (t : TypeId) : Pq4 (w.alloc (.cells #[.int .i64 x0, .int .i64 x1, .int .i64 x2, .int .i64 x3] t)) w.heap.size x0 x1 x2 x3 :=
  ⟨by go_simp, by go_simp, by go_simp, by go_simp, by go_simp, by go_simp, by go_simp, by go_simp⟩
theorem Pq4.other {w : World} {p q : Nat} {x0 x1 x2 x3 : Int} (h : Pq4 w p x0 x1 x2 x3) (hq : p ≠ q) (i : Nat) (v : Value) : Pq4 (w.setCell ⟨q, i, none⟩ v) p x0 x1 x2 x3 := by
  have hb : (w.setCell ⟨q, i, none⟩ v).heap[p]? = w.heap[p]? := Below.heap_setCell _ _ _ _ hq
  have hc : ∀ o, (w.setCell ⟨q, i, none⟩ v).cell? ⟨p, o, none⟩ = w.cell? ⟨p, o, none⟩ := fun o => World.cell?_of_block (w := w) (a := ⟨p, o, none⟩) hb
  have hf : ∀ o, (w.setCell ⟨q, i, none⟩ v).frozen? ⟨p, o, none⟩ = w.frozen? ⟨p, o, none⟩ := fun o => World.frozen?_of_block (w := w) (a := ⟨p, o, none⟩) hb
  exact ⟨(hc _).trans h.c0, (hc _).trans h.c1, (hc _).trans h.c2, (hc _).trans h.c3, (hf _).trans h.f0, (hf _).trans h.f1, (hf _).trans h.f2, (hf _).trans h.f3⟩
theorem Pq4.set {w : World} {p : Nat} {x0 x1 x2 x3 : Int} (h : Pq4 w p x0 x1 x2 x3) (y0 y1 y2 y3 : Int) : Pq4 ((((w.setCell ⟨p, 0, none⟩ (.int .i64 y0)).setCell ⟨p, 1, none⟩ (.int .i64 y1)).setCell ⟨p, 2, none⟩ (.int .i64 y2)).setCell ⟨p, 3, none⟩ (.int .i64 y3)) p y0 y1 y2 y3 := by
  obtain ⟨c0, c1, c2, c3, f0, f1, f2, f3⟩ := h
  exact ⟨by go_simp, by go_simp, by go_simp, by go_simp, by go_simp, by go_simp, by go_simp, by go_simp⟩
theorem Pq4.bk {w : World} {p : Nat} {x0 x1 x2 x3 : Int} (h : Pq4 w p x0 x1 x2 x3) : Bk4 w p x0 x1 x2 x3 := ⟨h.c0, h.c1, h.c2, h.c3⟩

/-- A pace and an error are handed back. -/
def GivesPk (r : Pk) (w : World) (e : Ending) (w' : World) : Prop :=
  e = .returned (.tuple #[bucketV r.rn r.rd r.ln r.ld, .int .i64 r.c]) ∧ Below w.heap.size w w'

set_option maxHeartbeats 800000 in
theorem svindex_any (B K cap : Nat) (bs : List Bkt) (hk : bs.length = K) (hK : K ≤ 1000) (w : World) (h : RowB w B 0 bs) :
    Calls Try.prog 194 #[.slice (some ⟨B, 0, none⟩) K cap, .func (.func 95) #[] #[]] w fun e w' => ∃ r : Int, -1 ≤ r ∧ r ≤ 1000 ∧ decide (0 ≤ r) = badL bs ∧ e = .returned (.int .i64 r) ∧ Below w.heap.size w w' := by
  have H := Lib.hid h
  have HK := Lib.hid hk
  clear h hk
  go_enter Try.func194, Try.ntmps194
  go_wp2_with fail
  go_loopw [8] (fun vi wx => ∃ k : Nat, vi = .int .i64 k ∧ k ≤ K ∧ Hid (∀ (i : Nat) (b : Bkt), i < k → bs[i]? = some b → b.ok = true) ∧ Hid (Below w.heap.size w wx)) (fun vi _ => K - (intOf vi).toNat)
  case atStart => exact ⟨0, by go_num, Nat.zero_le _, fun i b hi => absurd hi (Nat.not_lt_zero _), Below.refl _ _⟩
  case round =>
    obtain ⟨k, rfl, hk, hall, HW⟩ := hrel
    obtain ⟨wk, rfl⟩ : ∃ u : World, u = wr := ⟨_, rfl⟩
    by_cases hlt : k < K
    · obtain ⟨b, hc⟩ : ∃ b, bs[k]? = some b := ⟨_, List.getElem?_eq_getElem (by rw [HK.out]; exact hlt)⟩
      obtain ⟨c0, c1, c2, c3⟩ := (H.out.under HW.out).at0 hc
      obtain ⟨ok, hok⟩ : ∃ o, b.ok = o := ⟨_, rfl⟩
      have HC := Lib.hid (And.intro hc hok)
      have hlI : (k : Int) < (K : Int) := by omega
      clear hc hok
      go_wp2_with fail
      clear c0 c1 c2 c3
      refine (svfaulty_any b.bn b.bd b.rn b.rd ok HC.out.2 _).mono ?_
      rintro e w1 ⟨rfl, hb⟩
      have HW1 := Lib.hid (HW.out.trans (hb.mono HW.out.size))
      clear hb
      cases ok with
      | false =>
        go_wp2_with fail
        go_ret
        exact ⟨k, by omega, by omega, by rw [badL_of HC.out.1 HC.out.2]; simp, rfl, HW1.out⟩
      | true =>
        have hall2 := Lib.hid (show ∀ i c, i < k + 1 → bs[i]? = some c → c.ok = true from fun i c hi hc => by
          by_cases he : i = k
          · subst he; rw [HC.out.1] at hc; cases hc; exact HC.out.2
          · exact hall.out i c (by omega) hc)
        go_wp2_with fail
        go_roundw
        case rel => exact ⟨k + 1, by go_num, by omega, hall2, HW1⟩
        case measure => simp [intOf]; omega
    · obtain rfl : k = K := by omega
      go_wp2_with fail
      go_ret
      exact ⟨-1, by omega, by omega, by rw [badL_not (fun i b hb => hall.out i b (by have := (List.getElem?_eq_some_iff.1 hb).1; have := HK.out; omega) hb)]; simp, rfl, HW.out⟩

set_option maxHeartbeats 400000 in
theorem svcontains_any (B K cap : Nat) (bs : List Bkt) (hk : bs.length = K) (hK : K ≤ 1000) (c : Bool) (hc : badL bs = c) (w : World) (h : RowB w B 0 bs) :
    Calls Try.prog 100 #[.slice (some ⟨B, 0, none⟩) K cap, .func (.func 95) #[] #[]] w (Says (.bool c) w) := by
  have H := Lib.hid h
  have HB := Lib.hid (And.intro hc hk)
  clear h hc hk
  go_enter Try.func100, Try.ntmps100
  go_wp2_with fail
  refine (svindex_any B K cap bs HB.out.2 hK _ H.out).mono ?_
  rintro e w1 ⟨r, h1, h2, h3, rfl, hb⟩
  rw [HB.out.1] at h3
  subst h3
  have HW := Lib.hid hb
  clear hb
  go_wp2_with fail
  go_ret
  exact ⟨rfl, HW.out⟩

theorem svbelow4 {B : Nat} {u w : World} {b : Nat} (h : Below B u w) (hb : B ≤ b) (y0 y1 y2 y3 : Value) : Below B u ((((w.setCell ⟨b, 0, none⟩ y0).setCell ⟨b, 1, none⟩ y1).setCell ⟨b, 2, none⟩ y2).setCell ⟨b, 3, none⟩ y3) :=
  (((h.setCell (p := ⟨b, 0, none⟩) hb _).setCell (p := ⟨b, 1, none⟩) hb _).setCell (p := ⟨b, 2, none⟩) hb _).setCell (p := ⟨b, 3, none⟩) hb _
theorem Bk4.other {w : World} {p q : Nat} {x0 x1 x2 x3 : Int} (h : Bk4 w p x0 x1 x2 x3) (hq : p ≠ q) (i : Nat) (v : Value) : Bk4 (w.setCell ⟨q, i, none⟩ v) p x0 x1 x2 x3 := by
  have hb : (w.setCell ⟨q, i, none⟩ v).heap[p]? = w.heap[p]? := Below.heap_setCell _ _ _ _ hq
  have hc : ∀ o, (w.setCell ⟨q, i, none⟩ v).cell? ⟨p, o, none⟩ = w.cell? ⟨p, o, none⟩ := fun o => World.cell?_of_block (w := w) (a := ⟨p, o, none⟩) hb
  exact ⟨(hc _).trans h.c0, (hc _).trans h.c1, (hc _).trans h.c2, (hc _).trans h.c3⟩
/-- What chained has in its boxes. -/
structure Ch3 (w : World) (a b : Bkt) (u : World) : Prop where
  xa : Bk4 u w.heap.size a.bn a.bd a.rn a.rd
  xb : Bk4 u (w.heap.size + 1) b.bn b.bd b.rn b.rd
  xr : Pq4 u (w.heap.size + 2) 0 0 0 0
  below : Below w.heap.size w u
theorem Ch3.call {w u v : World} {a b : Bkt} (h : Ch3 w a b u) (hb : Below u.heap.size u v) : Ch3 w a b v := ⟨h.xa.below hb, h.xb.below hb, h.xr.below hb, h.below.trans (hb.mono h.below.size)⟩
theorem Ch3.put {w u : World} {a b : Bkt} (h : Ch3 w a b u) {R : Nat} (hR : w.heap.size + 2 < R) (x y : Value) : Ch3 w a b ((u.setCell ⟨R, 0, none⟩ x).setCell ⟨R, 1, none⟩ y) :=
  ⟨(h.xa.other (by omega) _ _).other (by omega) _ _, (h.xb.other (by omega) _ _).other (by omega) _ _, (h.xr.other (by omega) _ _).other (by omega) _ _, (h.below.setCell (p := ⟨R, 0, none⟩) (by show w.heap.size ≤ R; omega) _).setCell (p := ⟨R, 1, none⟩) (by show w.heap.size ≤ R; omega) _⟩
theorem Ch3.start (w : World) (a b : Bkt) (t1 t2 t3 : TypeId) : Ch3 w a b (((w.alloc (.cells #[.int .i64 a.bn, .int .i64 a.bd, .int .i64 a.rn, .int .i64 a.rd] t1)).alloc (.cells #[.int .i64 b.bn, .int .i64 b.bd, .int .i64 b.rn, .int .i64 b.rd] t2)).alloc (.cells #[.int .i64 0, .int .i64 0, .int .i64 0, .int .i64 0] t3)) := by
  refine ⟨((Bk4.new w _ _ _ _ t1).alloc _).alloc _, ?_, ?_, (((Below.refl _ _).alloc (Nat.le_refl _) _).alloc (by simp) _).alloc (by simp; omega) _⟩
  · have := (Bk4.new (w.alloc (.cells #[.int .i64 a.bn, .int .i64 a.bd, .int .i64 a.rn, .int .i64 a.rd] t1)) b.bn b.bd b.rn b.rd t2).alloc (.cells #[.int .i64 0, .int .i64 0, .int .i64 0, .int .i64 0] t3)
    rwa [show (w.alloc (.cells #[.int .i64 a.bn, .int .i64 a.bd, .int .i64 a.rn, .int .i64 a.rd] t1)).heap.size = w.heap.size + 1 by simp] at this
  · have := Pq4.new ((w.alloc (.cells #[.int .i64 a.bn, .int .i64 a.bd, .int .i64 a.rn, .int .i64 a.rd] t1)).alloc (.cells #[.int .i64 b.bn, .int .i64 b.bd, .int .i64 b.rn, .int .i64 b.rd] t2)) 0 0 0 0 t3
    rwa [show ((w.alloc (.cells #[.int .i64 a.bn, .int .i64 a.bd, .int .i64 a.rn, .int .i64 a.rd] t1)).alloc (.cells #[.int .i64 b.bn, .int .i64 b.bd, .int .i64 b.rn, .int .i64 b.rd] t2)).heap.size = w.heap.size + 2 by simp] at this

set_option maxRecDepth 100000 in
set_option maxHeartbeats 1600000 in
theorem chained_any (a b : Bkt) (w : World) :
    Calls Try.prog 103 #[bucketV a.bn a.bd a.rn a.rd, bucketV b.bn b.bd b.rn b.rd] w (GivesPk (linkA ⟨a.bn, a.bd, a.rn, a.rd, 0⟩ b) w) := by
  obtain ⟨W, hW⟩ : ∃ W, ((w.alloc (.cells #[.int .i64 a.bn, .int .i64 a.bd, .int .i64 a.rn, .int .i64 a.rd] 25)).alloc (.cells #[.int .i64 b.bn, .int .i64 b.bd, .int .i64 b.rn, .int .i64 b.rd] 25)).alloc (.cells #[.int .i64 0, .int .i64 0, .int .i64 0, .int .i64 0] 25) = W := ⟨_, rfl⟩
  have HX := Lib.hid (show Ch3 w a b W by rw [← hW]; exact Ch3.start w a b _ _ _)
  have HW := Lib.hid hW
  clear hW
  obtain ⟨s, hs⟩ : ∃ s, addF a.rn a.rd b.rn b.rd = s := ⟨_, rfl⟩
  obtain ⟨sn, sd, se⟩ := s
  obtain ⟨cm, hcm⟩ : ∃ c, compareF b.bn b.bd a.bn a.bd = c := ⟨_, rfl⟩
  obtain ⟨k, hk⟩ : ∃ k, linkA ⟨a.bn, a.bd, a.rn, a.rd, 0⟩ b = k := ⟨_, rfl⟩
  rw [hk]
  unfold linkA at hk
  dsimp only at hk
  rw [hs, hcm] at hk
  dsimp only at hk
  have HA := Lib.hid hs
  have HC := Lib.hid hcm
  clear hs hcm
  by_cases h0 : se = 0
  · subst h0
    rw [if_pos rfl] at hk
    by_cases hc : cm < 0
    · rw [if_pos hc] at hk
      subst hk
      go_enter Try.func103, Try.ntmps103
      go_upto_region 1 with fail
      rw [HW.out]
      clear HW
      obtain ⟨a0, a1, a2, a3⟩ := HX.out.xa
      obtain ⟨b0, b1, b2, b3⟩ := HX.out.xb
      go_wp2_with fail
      clear a0 a1 a2 a3 b0 b1 b2 b3
      refine (add_all a.rn a.rd b.rn b.rd _).mono ?_
      rintro e u1 ⟨he, hb⟩
      rw [HA.out] at he
      subst he
      obtain ⟨u2, hw⟩ : ∃ w', u1.alloc (.cells #[.int .i64 sn, .int .i64 sd] 23) = w' := ⟨_, rfl⟩
      have hz : Below W.heap.size W u2 := by rw [← hw]; exact hb.trans ((below_box _).mono hb.size)
      have HX2 := Lib.hid (HX.out.call hz)
      have XS := Lib.hid (show Box u2 u1.heap.size sn sd by rw [← hw]; exact Box.new _ _ _ _)
      have HSZ := Lib.hid (show w.heap.size + 2 < u1.heap.size from Nat.lt_of_lt_of_le HX.out.xr.lt hb.size)
      have HW := Lib.hid hw
      clear hb hw hz
      go_upto_region 2 with fail
      try rw [HW.out]
      obtain ⟨G, hG⟩ : ∃ B, u1.heap.size = B := ⟨_, rfl⟩
      rw [hG] at XS HSZ
      try rw [hG]
      clear HW hG
      go_upto_region 4 with fail
      obtain ⟨u3, hw⟩ : ∃ w', u2.alloc (.cells #[.int .i64 a.bn, .int .i64 a.bd] 23) = w' := ⟨_, rfl⟩
      have hz : Below u2.heap.size u2 u3 := by rw [← hw]; exact below_box _
      have HX3 := Lib.hid (HX2.out.call hz)
      have XS3 := Lib.hid (XS.out.below hz)
      have XR := Lib.hid (show Box u3 u2.heap.size a.bn a.bd by rw [← hw]; exact Box.new _ _ _ _)
      have HSR := Lib.hid (show w.heap.size + 2 < u2.heap.size ∧ G < u2.heap.size from ⟨HX2.out.xr.lt, XS.out.lt⟩)
      have HW := Lib.hid hw
      obtain ⟨a0, a1, a2, a3⟩ := HX2.out.xa
      clear hw hz
      go_upto_region 5 with fail
      try rw [HW.out]
      obtain ⟨R, hG⟩ : ∃ B, u2.heap.size = B := ⟨_, rfl⟩
      rw [hG] at XR HSR
      try rw [hG]
      clear HW hG a0 a1 a2 a3
      obtain ⟨b0, b1, b2, b3⟩ := HX3.out.xb
      obtain ⟨r0, r1, _, _⟩ := XR.out
      go_wp2_with fail
      clear b0 b1 b2 b3 r0 r1
      refine (compare_all b.bn b.bd a.bn a.bd _).mono ?_
      rintro e u4 ⟨rfl, hb⟩
      rw [HC.out]
      have HX4 := Lib.hid (HX3.out.call hb)
      have XS4 := Lib.hid (XS3.out.below hb)
      have XR4 := Lib.hid (XR.out.below hb)
      clear hb
      obtain ⟨u5, hw⟩ : ∃ w', (u4.setCell ⟨R, 0, none⟩ (.int .i64 b.bn)).setCell ⟨R, 1, none⟩ (.int .i64 b.bd) = w' := ⟨_, rfl⟩
      have HX5 := Lib.hid (show Ch3 w a b u5 by rw [← hw]; exact HX4.out.put HSR.out.1 _ _)
      have XS5 := Lib.hid (show Box u5 G sn sd by rw [← hw]; exact (XS4.out.other (by have := HSR.out.2; omega) _ _).other (by have := HSR.out.2; omega) _ _)
      have XR5 := Lib.hid (show Box u5 R b.bn b.bd by rw [← hw]; exact XR4.out.set _ _)
      have HW := Lib.hid hw
      obtain ⟨b0, b1, b2, b3⟩ := HX4.out.xb
      obtain ⟨r0, r1, r2, r3⟩ := XR4.out
      clear hw
      go_upto_region 7 with fail
      try rw [HW.out]
      clear HW b0 b1 b2 b3 r0 r1 r2 r3
      obtain ⟨s0, s1, _, _⟩ := XS5.out
      obtain ⟨r0, r1, _, _⟩ := XR5.out
      obtain ⟨e0, e1, e2, e3, e4, e5, e6, e7⟩ := HX5.out.xr
      go_wp2_with fail
      exact bodyPost_ret (v := .tuple #[bucketV b.bn b.bd sn sd, .int .i64 0]) (by simp [results, Try.results103, go_sem, e0, e1, e2, e3, e4, e5, e6, e7]) rfl ⟨rfl, svbelow4 HX5.out.below (by omega) _ _ _ _⟩
    · rw [if_neg hc] at hk
      subst hk
      go_enter Try.func103, Try.ntmps103
      go_upto_region 1 with fail
      rw [HW.out]
      clear HW
      obtain ⟨a0, a1, a2, a3⟩ := HX.out.xa
      obtain ⟨b0, b1, b2, b3⟩ := HX.out.xb
      go_wp2_with fail
      clear a0 a1 a2 a3 b0 b1 b2 b3
      refine (add_all a.rn a.rd b.rn b.rd _).mono ?_
      rintro e u1 ⟨he, hb⟩
      rw [HA.out] at he
      subst he
      obtain ⟨u2, hw⟩ : ∃ w', u1.alloc (.cells #[.int .i64 sn, .int .i64 sd] 23) = w' := ⟨_, rfl⟩
      have hz : Below W.heap.size W u2 := by rw [← hw]; exact hb.trans ((below_box _).mono hb.size)
      have HX2 := Lib.hid (HX.out.call hz)
      have XS := Lib.hid (show Box u2 u1.heap.size sn sd by rw [← hw]; exact Box.new _ _ _ _)
      have HSZ := Lib.hid (show w.heap.size + 2 < u1.heap.size from Nat.lt_of_lt_of_le HX.out.xr.lt hb.size)
      have HW := Lib.hid hw
      clear hb hw hz
      go_upto_region 2 with fail
      try rw [HW.out]
      obtain ⟨G, hG⟩ : ∃ B, u1.heap.size = B := ⟨_, rfl⟩
      rw [hG] at XS HSZ
      try rw [hG]
      clear HW hG
      go_upto_region 4 with fail
      obtain ⟨u3, hw⟩ : ∃ w', u2.alloc (.cells #[.int .i64 a.bn, .int .i64 a.bd] 23) = w' := ⟨_, rfl⟩
      have hz : Below u2.heap.size u2 u3 := by rw [← hw]; exact below_box _
      have HX3 := Lib.hid (HX2.out.call hz)
      have XS3 := Lib.hid (XS.out.below hz)
      have XR := Lib.hid (show Box u3 u2.heap.size a.bn a.bd by rw [← hw]; exact Box.new _ _ _ _)
      have HSR := Lib.hid (show w.heap.size + 2 < u2.heap.size ∧ G < u2.heap.size from ⟨HX2.out.xr.lt, XS.out.lt⟩)
      have HW := Lib.hid hw
      obtain ⟨a0, a1, a2, a3⟩ := HX2.out.xa
      clear hw hz
      go_upto_region 5 with fail
      try rw [HW.out]
      obtain ⟨R, hG⟩ : ∃ B, u2.heap.size = B := ⟨_, rfl⟩
      rw [hG] at XR HSR
      try rw [hG]
      clear HW hG a0 a1 a2 a3
      obtain ⟨b0, b1, b2, b3⟩ := HX3.out.xb
      obtain ⟨r0, r1, _, _⟩ := XR.out
      go_wp2_with fail
      clear b0 b1 b2 b3 r0 r1
      refine (compare_all b.bn b.bd a.bn a.bd _).mono ?_
      rintro e u4 ⟨rfl, hb⟩
      rw [HC.out]
      have HX4 := Lib.hid (HX3.out.call hb)
      have XS4 := Lib.hid (XS3.out.below hb)
      have XR4 := Lib.hid (XR.out.below hb)
      clear hb
      go_upto_region 7 with fail
      obtain ⟨s0, s1, _, _⟩ := XS4.out
      obtain ⟨r0, r1, _, _⟩ := XR4.out
      obtain ⟨e0, e1, e2, e3, e4, e5, e6, e7⟩ := HX4.out.xr
      go_wp2_with fail
      exact bodyPost_ret (v := .tuple #[bucketV a.bn a.bd sn sd, .int .i64 0]) (by simp [results, Try.results103, go_sem, e0, e1, e2, e3, e4, e5, e6, e7]) rfl ⟨rfl, svbelow4 HX4.out.below (by omega) _ _ _ _⟩
  · rw [if_neg h0] at hk
    subst hk
    have hb0 : (se == 0) = false := by simpa using h0
    have hb1 : (se != 0) = true := by simpa using h0
    go_enter Try.func103, Try.ntmps103
    go_upto_region 1 with fail
    rw [HW.out]
    clear HW
    obtain ⟨a0, a1, a2, a3⟩ := HX.out.xa
    obtain ⟨b0, b1, b2, b3⟩ := HX.out.xb
    go_wp2_with fail
    clear a0 a1 a2 a3 b0 b1 b2 b3
    refine (add_all a.rn a.rd b.rn b.rd _).mono ?_
    rintro e u1 ⟨he, hb⟩
    rw [HA.out] at he
    subst he
    obtain ⟨u2, hw⟩ : ∃ w', u1.alloc (.cells #[.int .i64 sn, .int .i64 sd] 23) = w' := ⟨_, rfl⟩
    have hz : Below W.heap.size W u2 := by rw [← hw]; exact hb.trans ((below_box _).mono hb.size)
    have HX2 := Lib.hid (HX.out.call hz)
    have XS := Lib.hid (show Box u2 u1.heap.size sn sd by rw [← hw]; exact Box.new _ _ _ _)
    have HSZ := Lib.hid (show w.heap.size + 2 < u1.heap.size from Nat.lt_of_lt_of_le HX.out.xr.lt hb.size)
    have HW := Lib.hid hw
    clear hb hw hz
    go_upto_region 2 with fail
    try rw [HW.out]
    obtain ⟨G, hG⟩ : ∃ B, u1.heap.size = B := ⟨_, rfl⟩
    rw [hG] at XS HSZ
    try rw [hG]
    clear HW hG
    obtain ⟨e0, e1, e2, e3, e4, e5, e6, e7⟩ := HX2.out.xr
    go_wp2_with fail
    exact bodyPost_ret (v := .tuple #[bucketV 0 0 0 0, .int .i64 se]) (by simp [results, Try.results103, go_sem, e0, e1, e2, e3, e4, e5, e6, e7]) rfl ⟨rfl, svbelow4 HX2.out.below (by omega) _ _ _ _⟩

/-- What Wait has in its boxes. -/
structure Wt (w : World) (bn bd an ad rn rd ln ld : Int) (u : World) : Prop where
  x : Bk4 u w.heap.size bn bd an ad
  y : Bk4 u (w.heap.size + 1) rn rd ln ld
  r : Box u (w.heap.size + 2) 0 0
  below : Below w.heap.size w u
section
variable {w u v : World} {bn bd an ad rn rd ln ld : Int}
theorem Wt.call (h : Wt w bn bd an ad rn rd ln ld u) (hb : Below u.heap.size u v) : Wt w bn bd an ad rn rd ln ld v := ⟨h.x.below hb, h.y.below hb, h.r.below hb, h.below.trans (hb.mono h.below.size)⟩
theorem Wt.put (h : Wt w bn bd an ad rn rd ln ld u) {R : Nat} (hR : w.heap.size + 2 < R) (x y : Value) : Wt w bn bd an ad rn rd ln ld ((u.setCell ⟨R, 0, none⟩ x).setCell ⟨R, 1, none⟩ y) :=
  ⟨(h.x.other (by omega) _ _).other (by omega) _ _, (h.y.other (by omega) _ _).other (by omega) _ _, (h.r.other (by omega) _ _).other (by omega) _ _, (h.below.setCell (p := ⟨R, 0, none⟩) (by show w.heap.size ≤ R; omega) _).setCell (p := ⟨R, 1, none⟩) (by show w.heap.size ≤ R; omega) _⟩
end
theorem Wt.start (w : World) (bn bd an ad rn rd ln ld : Int) (t1 t2 t3 : TypeId) : Wt w bn bd an ad rn rd ln ld (((w.alloc (.cells #[.int .i64 bn, .int .i64 bd, .int .i64 an, .int .i64 ad] t1)).alloc (.cells #[.int .i64 rn, .int .i64 rd, .int .i64 ln, .int .i64 ld] t2)).alloc (.cells #[.int .i64 0, .int .i64 0] t3)) := by
  refine ⟨((Bk4.new w _ _ _ _ t1).alloc _).alloc _, ?_, ?_, (((Below.refl _ _).alloc (Nat.le_refl _) _).alloc (by simp) _).alloc (by simp; omega) _⟩
  · have := (Bk4.new (w.alloc (.cells #[.int .i64 bn, .int .i64 bd, .int .i64 an, .int .i64 ad] t1)) rn rd ln ld t2).alloc (.cells #[.int .i64 0, .int .i64 0] t3)
    rwa [show (w.alloc (.cells #[.int .i64 bn, .int .i64 bd, .int .i64 an, .int .i64 ad] t1)).heap.size = w.heap.size + 1 by simp] at this
  · have := Box.new ((w.alloc (.cells #[.int .i64 bn, .int .i64 bd, .int .i64 an, .int .i64 ad] t1)).alloc (.cells #[.int .i64 rn, .int .i64 rd, .int .i64 ln, .int .i64 ld] t2)) 0 0 t3
    rwa [show ((w.alloc (.cells #[.int .i64 bn, .int .i64 bd, .int .i64 an, .int .i64 ad] t1)).alloc (.cells #[.int .i64 rn, .int .i64 rd, .int .i64 ln, .int .i64 ld] t2)).heap.size = w.heap.size + 2 by simp] at this

set_option maxRecDepth 100000 in
set_option maxHeartbeats 3200000 in
theorem wait_any (bn bd an ad rn rd ln ld : Int) (w : World) :
    Calls Try.prog 28 #[bucketV bn bd an ad, bucketV rn rd ln ld] w (Gave (waitA bn bd an ad rn rd ln ld) w) := by
  obtain ⟨W, hW⟩ : ∃ W, ((w.alloc (.cells #[.int .i64 bn, .int .i64 bd, .int .i64 an, .int .i64 ad] 46)).alloc (.cells #[.int .i64 rn, .int .i64 rd, .int .i64 ln, .int .i64 ld] 25)).alloc (.cells #[.int .i64 0, .int .i64 0] 23) = W := ⟨_, rfl⟩
  have HX := Lib.hid (show Wt w bn bd an ad rn rd ln ld W by rw [← hW]; exact Wt.start w bn bd an ad rn rd ln ld _ _ _)
  have HW := Lib.hid hW
  clear hW
  obtain ⟨k, hk⟩ : ∃ k, waitA bn bd an ad rn rd ln ld = k := ⟨_, rfl⟩
  rw [hk]
  unfold waitA at hk
  cases h1 : okB bn bd with
  | false =>
    rw [h1] at hk
    rw [if_neg (by simp)] at hk
    subst hk
    have H1 := Lib.hid h1
    clear h1
    go_enter Try.func28, Try.ntmps28
    go_upto_region 1 with fail
    rw [HW.out]
    clear HW
    obtain ⟨a0, a1, a2, a3⟩ := HX.out.x
    go_wp2_with fail
    clear a0 a1 a2 a3
    refine (svunfit_any bn bd _ H1.out _).mono ?_
    rintro e u1 ⟨rfl, hb⟩
    have HX1 := Lib.hid (HX.out.call hb)
    clear hb
    obtain ⟨e0, e1, e2, e3⟩ := HX1.out.r
    go_wp2_with fail
    exact bodyPost_ret (v := .tuple #[.agg #[.int .i64 0, .int .i64 0], .int .i64 2]) (by simp [results, Try.results28, go_sem, e0, e1, e2, e3]) rfl ⟨rfl, (HX1.out.below.setCell (by show w.heap.size ≤ w.heap.size + 2; omega) _).setCell (by show w.heap.size ≤ w.heap.size + 2; omega) _⟩
  | true =>
  cases h2 : okB an ad with
  | false =>
    rw [h1, h2] at hk
    rw [if_neg (by simp)] at hk
    subst hk
    have H1 := Lib.hid h1
    have H2 := Lib.hid h2
    clear h1 h2
    go_enter Try.func28, Try.ntmps28
    go_upto_region 1 with fail
    rw [HW.out]
    clear HW
    obtain ⟨a0, a1, a2, a3⟩ := HX.out.x
    go_wp2_with fail
    clear a0 a1 a2 a3
    refine (svunfit_any bn bd _ H1.out _).mono ?_
    rintro e u1 ⟨rfl, hb⟩
    have HX1 := Lib.hid (HX.out.call hb)
    clear hb
    obtain ⟨a0, a1, a2, a3⟩ := HX1.out.x
    go_wp2_with fail
    clear a0 a1 a2 a3
    refine (svunfit_any an ad _ H2.out _).mono ?_
    rintro e u2 ⟨rfl, hb⟩
    have HX2 := Lib.hid (HX1.out.call hb)
    clear hb
    obtain ⟨e0, e1, e2, e3⟩ := HX2.out.r
    go_wp2_with fail
    exact bodyPost_ret (v := .tuple #[.agg #[.int .i64 0, .int .i64 0], .int .i64 2]) (by simp [results, Try.results28, go_sem, e0, e1, e2, e3]) rfl ⟨rfl, (HX2.out.below.setCell (by show w.heap.size ≤ w.heap.size + 2; omega) _).setCell (by show w.heap.size ≤ w.heap.size + 2; omega) _⟩
  | true =>
  cases h3 : (okB rn rd && okB ln ld) with
  | false =>
    rw [h1, h2, h3] at hk
    rw [if_neg (by simp)] at hk
    subst hk
    have H1 := Lib.hid h1
    have H2 := Lib.hid h2
    have H3 := Lib.hid h3
    clear h1 h2 h3
    go_enter Try.func28, Try.ntmps28
    go_upto_region 1 with fail
    rw [HW.out]
    clear HW
    obtain ⟨a0, a1, a2, a3⟩ := HX.out.x
    go_wp2_with fail
    clear a0 a1 a2 a3
    refine (svunfit_any bn bd _ H1.out _).mono ?_
    rintro e u1 ⟨rfl, hb⟩
    have HX1 := Lib.hid (HX.out.call hb)
    clear hb
    obtain ⟨a0, a1, a2, a3⟩ := HX1.out.x
    go_wp2_with fail
    clear a0 a1 a2 a3
    refine (svunfit_any an ad _ H2.out _).mono ?_
    rintro e u2 ⟨rfl, hb⟩
    have HX2 := Lib.hid (HX1.out.call hb)
    clear hb
    obtain ⟨b0, b1, b2, b3⟩ := HX2.out.y
    go_wp2_with fail
    clear b0 b1 b2 b3
    refine (svfaulty_any rn rd ln ld _ H3.out _).mono ?_
    rintro e u3 ⟨rfl, hb⟩
    have HX3 := Lib.hid (HX2.out.call hb)
    clear hb
    obtain ⟨e0, e1, e2, e3⟩ := HX3.out.r
    go_wp2_with fail
    exact bodyPost_ret (v := .tuple #[.agg #[.int .i64 0, .int .i64 0], .int .i64 2]) (by simp [results, Try.results28, go_sem, e0, e1, e2, e3]) rfl ⟨rfl, (HX3.out.below.setCell (by show w.heap.size ≤ w.heap.size + 2; omega) _).setCell (by show w.heap.size ≤ w.heap.size + 2; omega) _⟩
  | true =>
  rw [h1, h2, h3] at hk
  rw [if_pos (by rfl)] at hk
  have H1 := Lib.hid h1
  have H2 := Lib.hid h2
  have H3 := Lib.hid h3
  clear h1 h2 h3
  by_cases h0 : rn = 0
  · rw [if_pos (.inl h0)] at hk
    subst hk
    have h0b : (rn == 0) = true := by simpa using h0
    clear h0
    go_enter Try.func28, Try.ntmps28
    go_upto_region 1 with fail
    rw [HW.out]
    clear HW
    obtain ⟨a0, a1, a2, a3⟩ := HX.out.x
    go_wp2_with fail
    clear a0 a1 a2 a3
    refine (svunfit_any bn bd _ H1.out _).mono ?_
    rintro e u1 ⟨rfl, hb⟩
    have HX1 := Lib.hid (HX.out.call hb)
    clear hb
    obtain ⟨a0, a1, a2, a3⟩ := HX1.out.x
    go_wp2_with fail
    clear a0 a1 a2 a3
    refine (svunfit_any an ad _ H2.out _).mono ?_
    rintro e u2 ⟨rfl, hb⟩
    have HX2 := Lib.hid (HX1.out.call hb)
    clear hb
    obtain ⟨b0, b1, b2, b3⟩ := HX2.out.y
    go_wp2_with fail
    clear b0 b1 b2 b3
    refine (svfaulty_any rn rd ln ld _ H3.out _).mono ?_
    rintro e u3 ⟨rfl, hb⟩
    have HX3 := Lib.hid (HX2.out.call hb)
    clear hb
    obtain ⟨b0, b1, b2, b3⟩ := HX3.out.y
    obtain ⟨e0, e1, e2, e3⟩ := HX3.out.r
    go_wp2_with fail
    exact bodyPost_ret (v := .tuple #[.agg #[.int .i64 0, .int .i64 0], .int .i64 5]) (by simp [results, Try.results28, go_sem, e0, e1, e2, e3]) rfl ⟨rfl, (HX3.out.below.setCell (by show w.heap.size ≤ w.heap.size + 2; omega) _).setCell (by show w.heap.size ≤ w.heap.size + 2; omega) _⟩
  have h0b : (rn == 0) = false := by simpa using h0
  obtain ⟨cm, hcm⟩ : ∃ c, compareF an ad rn rd = c := ⟨_, rfl⟩
  rw [hcm] at hk
  have HC := Lib.hid hcm
  clear hcm
  by_cases hc : 0 < cm
  · rw [if_pos (.inr hc)] at hk
    subst hk
    have hcd : decide (0 < cm) = true := decide_eq_true hc
    go_enter Try.func28, Try.ntmps28
    go_upto_region 1 with fail
    rw [HW.out]
    clear HW
    obtain ⟨a0, a1, a2, a3⟩ := HX.out.x
    go_wp2_with fail
    clear a0 a1 a2 a3
    refine (svunfit_any bn bd _ H1.out _).mono ?_
    rintro e u1 ⟨rfl, hb⟩
    have HX1 := Lib.hid (HX.out.call hb)
    clear hb
    obtain ⟨a0, a1, a2, a3⟩ := HX1.out.x
    go_wp2_with fail
    clear a0 a1 a2 a3
    refine (svunfit_any an ad _ H2.out _).mono ?_
    rintro e u2 ⟨rfl, hb⟩
    have HX2 := Lib.hid (HX1.out.call hb)
    clear hb
    obtain ⟨b0, b1, b2, b3⟩ := HX2.out.y
    go_wp2_with fail
    clear b0 b1 b2 b3
    refine (svfaulty_any rn rd ln ld _ H3.out _).mono ?_
    rintro e u3 ⟨rfl, hb⟩
    have HX3 := Lib.hid (HX2.out.call hb)
    clear hb
    obtain ⟨a0, a1, a2, a3⟩ := HX3.out.x
    obtain ⟨b0, b1, b2, b3⟩ := HX3.out.y
    go_wp2_with fail
    clear a0 a1 a2 a3 b0 b1 b2 b3
    refine (compare_all an ad rn rd _).mono ?_
    rintro e u4 ⟨rfl, hb⟩
    rw [HC.out]
    have HX4 := Lib.hid (HX3.out.call hb)
    clear hb
    obtain ⟨e0, e1, e2, e3⟩ := HX4.out.r
    go_wp2_with fail
    exact bodyPost_ret (v := .tuple #[.agg #[.int .i64 0, .int .i64 0], .int .i64 5]) (by simp [results, Try.results28, go_sem, e0, e1, e2, e3]) rfl ⟨rfl, (HX4.out.below.setCell (by show w.heap.size ≤ w.heap.size + 2; omega) _).setCell (by show w.heap.size ≤ w.heap.size + 2; omega) _⟩
  rw [if_neg (by rintro (h | h); exact h0 h; exact hc h)] at hk
  have hcd : decide (0 < cm) = false := decide_eq_false hc
  unfold waitS at hk
  obtain ⟨x, hx⟩ : ∃ x, divF bn bd rn rd = x := ⟨_, rfl⟩
  obtain ⟨xn, xd, xe⟩ := x
  rw [hx] at hk
  dsimp only at hk
  have HD := Lib.hid hx
  clear hx
  by_cases e0 : xe = 0
  rotate_left
  · rw [if_neg e0] at hk
    subst hk
    have e0b : (xe == 0) = false := by simpa using e0
    go_enter Try.func28, Try.ntmps28
    go_upto_region 1 with fail
    rw [HW.out]
    clear HW
    obtain ⟨a0, a1, a2, a3⟩ := HX.out.x
    go_wp2_with fail
    clear a0 a1 a2 a3
    refine (svunfit_any bn bd _ H1.out _).mono ?_
    rintro e u1 ⟨rfl, hb⟩
    have HX1 := Lib.hid (HX.out.call hb)
    clear hb
    obtain ⟨a0, a1, a2, a3⟩ := HX1.out.x
    go_wp2_with fail
    clear a0 a1 a2 a3
    refine (svunfit_any an ad _ H2.out _).mono ?_
    rintro e u2 ⟨rfl, hb⟩
    have HX2 := Lib.hid (HX1.out.call hb)
    clear hb
    obtain ⟨b0, b1, b2, b3⟩ := HX2.out.y
    go_wp2_with fail
    clear b0 b1 b2 b3
    refine (svfaulty_any rn rd ln ld _ H3.out _).mono ?_
    rintro e u3 ⟨rfl, hb⟩
    have HX3 := Lib.hid (HX2.out.call hb)
    clear hb
    obtain ⟨a0, a1, a2, a3⟩ := HX3.out.x
    obtain ⟨b0, b1, b2, b3⟩ := HX3.out.y
    go_wp2_with fail
    clear a0 a1 a2 a3 b0 b1 b2 b3
    refine (compare_all an ad rn rd _).mono ?_
    rintro e u4 ⟨rfl, hb⟩
    rw [HC.out]
    have HX4 := Lib.hid (HX3.out.call hb)
    clear hb
    go_upto_region 5 with fail
    obtain ⟨a0, a1, a2, a3⟩ := HX4.out.x
    obtain ⟨b0, b1, b2, b3⟩ := HX4.out.y
    go_wp2_with fail
    clear a0 a1 a2 a3 b0 b1 b2 b3
    refine (div_all bn bd rn rd _).mono ?_
    rintro e v1 ⟨he, hb⟩
    rw [HD.out] at he
    subst he
    obtain ⟨u5, hw⟩ : ∃ w', v1.alloc (.cells #[.int .i64 xn, .int .i64 xd] 23) = w' := ⟨_, rfl⟩
    have hz : Below u4.heap.size u4 u5 := by rw [← hw]; exact hb.trans ((below_box _).mono hb.size)
    have HX5 := Lib.hid (HX4.out.call hz)
    have XG5 := Lib.hid (show Box u5 v1.heap.size xn xd by rw [← hw]; exact Box.new _ _ _ _)
    have HSZ := Lib.hid (show w.heap.size + 2 < v1.heap.size from Nat.lt_of_lt_of_le HX4.out.r.lt hb.size)
    have HW := Lib.hid hw
    clear hb hw hz
    go_upto_region 6 with fail
    try rw [HW.out]
    obtain ⟨G, hG⟩ : ∃ B, v1.heap.size = B := ⟨_, rfl⟩
    rw [hG] at XG5 HSZ
    try rw [hG]
    clear HW hG
    obtain ⟨s0, s1, s2, s3⟩ := XG5.out
    obtain ⟨e0, e1, e2, e3⟩ := HX5.out.r
    go_wp2_with fail
    exact bodyPost_ret (v := .tuple #[.agg #[.int .i64 xn, .int .i64 xd], .int .i64 xe]) (by simp [results, Try.results28, go_sem, e0, e1, e2, e3]) rfl ⟨rfl, (HX5.out.below.setCell (by show w.heap.size ≤ w.heap.size + 2; omega) _).setCell (by show w.heap.size ≤ w.heap.size + 2; omega) _⟩
  subst e0
  rw [if_pos rfl] at hk
  obtain ⟨y, hy⟩ : ∃ y, addF xn xd ln ld = y := ⟨_, rfl⟩
  obtain ⟨yn, yd, ye⟩ := y
  rw [hy] at hk
  dsimp only at hk
  have HY := Lib.hid hy
  clear hy
  by_cases e1 : ye = 0
  rotate_left
  · rw [if_neg e1] at hk
    subst hk
    have e1b : (ye == 0) = false := by simpa using e1
    go_enter Try.func28, Try.ntmps28
    go_upto_region 1 with fail
    rw [HW.out]
    clear HW
    obtain ⟨a0, a1, a2, a3⟩ := HX.out.x
    go_wp2_with fail
    clear a0 a1 a2 a3
    refine (svunfit_any bn bd _ H1.out _).mono ?_
    rintro e u1 ⟨rfl, hb⟩
    have HX1 := Lib.hid (HX.out.call hb)
    clear hb
    obtain ⟨a0, a1, a2, a3⟩ := HX1.out.x
    go_wp2_with fail
    clear a0 a1 a2 a3
    refine (svunfit_any an ad _ H2.out _).mono ?_
    rintro e u2 ⟨rfl, hb⟩
    have HX2 := Lib.hid (HX1.out.call hb)
    clear hb
    obtain ⟨b0, b1, b2, b3⟩ := HX2.out.y
    go_wp2_with fail
    clear b0 b1 b2 b3
    refine (svfaulty_any rn rd ln ld _ H3.out _).mono ?_
    rintro e u3 ⟨rfl, hb⟩
    have HX3 := Lib.hid (HX2.out.call hb)
    clear hb
    obtain ⟨a0, a1, a2, a3⟩ := HX3.out.x
    obtain ⟨b0, b1, b2, b3⟩ := HX3.out.y
    go_wp2_with fail
    clear a0 a1 a2 a3 b0 b1 b2 b3
    refine (compare_all an ad rn rd _).mono ?_
    rintro e u4 ⟨rfl, hb⟩
    rw [HC.out]
    have HX4 := Lib.hid (HX3.out.call hb)
    clear hb
    go_upto_region 5 with fail
    obtain ⟨a0, a1, a2, a3⟩ := HX4.out.x
    obtain ⟨b0, b1, b2, b3⟩ := HX4.out.y
    go_wp2_with fail
    clear a0 a1 a2 a3 b0 b1 b2 b3
    refine (div_all bn bd rn rd _).mono ?_
    rintro e v1 ⟨he, hb⟩
    rw [HD.out] at he
    subst he
    obtain ⟨u5, hw⟩ : ∃ w', v1.alloc (.cells #[.int .i64 xn, .int .i64 xd] 23) = w' := ⟨_, rfl⟩
    have hz : Below u4.heap.size u4 u5 := by rw [← hw]; exact hb.trans ((below_box _).mono hb.size)
    have HX5 := Lib.hid (HX4.out.call hz)
    have XG5 := Lib.hid (show Box u5 v1.heap.size xn xd by rw [← hw]; exact Box.new _ _ _ _)
    have HSZ := Lib.hid (show w.heap.size + 2 < v1.heap.size from Nat.lt_of_lt_of_le HX4.out.r.lt hb.size)
    have HW := Lib.hid hw
    clear hb hw hz
    go_upto_region 6 with fail
    try rw [HW.out]
    obtain ⟨G, hG⟩ : ∃ B, v1.heap.size = B := ⟨_, rfl⟩
    rw [hG] at XG5 HSZ
    try rw [hG]
    clear HW hG
    obtain ⟨b0, b1, b2, b3⟩ := HX5.out.y
    obtain ⟨s0, s1, _, _⟩ := XG5.out
    go_wp2_with fail
    clear s0 s1
    refine (add_all xn xd ln ld _).mono ?_
    rintro e v5 ⟨he, hb⟩
    rw [HY.out] at he
    subst he
    obtain ⟨u6, hw⟩ : ∃ w', (v5.setCell ⟨G, 0, none⟩ (.int .i64 yn)).setCell ⟨G, 1, none⟩ (.int .i64 yd) = w' := ⟨_, rfl⟩
    have HX6 := Lib.hid (show Wt w bn bd an ad rn rd ln ld u6 by rw [← hw]; exact (HX5.out.call hb).put HSZ.out _ _)
    have XG6 := Lib.hid (show Box u6 G yn yd by rw [← hw]; exact (XG5.out.below hb).set _ _)
    obtain ⟨s0, s1, s2, s3⟩ := XG5.out.below hb
    have HW := Lib.hid hw
    clear hb hw
    go_upto_region 8 with fail
    try rw [HW.out]
    clear HW s0 s1 s2 s3
    obtain ⟨s0, s1, s2, s3⟩ := XG6.out
    obtain ⟨e0, e1, e2, e3⟩ := HX6.out.r
    go_wp2_with fail
    exact bodyPost_ret (v := .tuple #[.agg #[.int .i64 yn, .int .i64 yd], .int .i64 ye]) (by simp [results, Try.results28, go_sem, e0, e1, e2, e3]) rfl ⟨rfl, (HX6.out.below.setCell (by show w.heap.size ≤ w.heap.size + 2; omega) _).setCell (by show w.heap.size ≤ w.heap.size + 2; omega) _⟩
  subst e1
  rw [if_pos rfl] at hk
  obtain ⟨z, hz⟩ : ∃ z, subF yn yd 1 1 = z := ⟨_, rfl⟩
  obtain ⟨zn, zd, ze⟩ := z
  rw [hz] at hk
  dsimp only at hk
  have HZ := Lib.hid hz
  clear hz
  by_cases e2 : ze = 0
  rotate_left
  · rw [if_neg (fun h => e2 h.1)] at hk
    subst hk
    have e2b : (ze == 0) = false := by simpa using e2
    go_enter Try.func28, Try.ntmps28
    go_upto_region 1 with fail
    rw [HW.out]
    clear HW
    obtain ⟨a0, a1, a2, a3⟩ := HX.out.x
    go_wp2_with fail
    clear a0 a1 a2 a3
    refine (svunfit_any bn bd _ H1.out _).mono ?_
    rintro e u1 ⟨rfl, hb⟩
    have HX1 := Lib.hid (HX.out.call hb)
    clear hb
    obtain ⟨a0, a1, a2, a3⟩ := HX1.out.x
    go_wp2_with fail
    clear a0 a1 a2 a3
    refine (svunfit_any an ad _ H2.out _).mono ?_
    rintro e u2 ⟨rfl, hb⟩
    have HX2 := Lib.hid (HX1.out.call hb)
    clear hb
    obtain ⟨b0, b1, b2, b3⟩ := HX2.out.y
    go_wp2_with fail
    clear b0 b1 b2 b3
    refine (svfaulty_any rn rd ln ld _ H3.out _).mono ?_
    rintro e u3 ⟨rfl, hb⟩
    have HX3 := Lib.hid (HX2.out.call hb)
    clear hb
    obtain ⟨a0, a1, a2, a3⟩ := HX3.out.x
    obtain ⟨b0, b1, b2, b3⟩ := HX3.out.y
    go_wp2_with fail
    clear a0 a1 a2 a3 b0 b1 b2 b3
    refine (compare_all an ad rn rd _).mono ?_
    rintro e u4 ⟨rfl, hb⟩
    rw [HC.out]
    have HX4 := Lib.hid (HX3.out.call hb)
    clear hb
    go_upto_region 5 with fail
    obtain ⟨a0, a1, a2, a3⟩ := HX4.out.x
    obtain ⟨b0, b1, b2, b3⟩ := HX4.out.y
    go_wp2_with fail
    clear a0 a1 a2 a3 b0 b1 b2 b3
    refine (div_all bn bd rn rd _).mono ?_
    rintro e v1 ⟨he, hb⟩
    rw [HD.out] at he
    subst he
    obtain ⟨u5, hw⟩ : ∃ w', v1.alloc (.cells #[.int .i64 xn, .int .i64 xd] 23) = w' := ⟨_, rfl⟩
    have hz : Below u4.heap.size u4 u5 := by rw [← hw]; exact hb.trans ((below_box _).mono hb.size)
    have HX5 := Lib.hid (HX4.out.call hz)
    have XG5 := Lib.hid (show Box u5 v1.heap.size xn xd by rw [← hw]; exact Box.new _ _ _ _)
    have HSZ := Lib.hid (show w.heap.size + 2 < v1.heap.size from Nat.lt_of_lt_of_le HX4.out.r.lt hb.size)
    have HW := Lib.hid hw
    clear hb hw hz
    go_upto_region 6 with fail
    try rw [HW.out]
    obtain ⟨G, hG⟩ : ∃ B, v1.heap.size = B := ⟨_, rfl⟩
    rw [hG] at XG5 HSZ
    try rw [hG]
    clear HW hG
    obtain ⟨b0, b1, b2, b3⟩ := HX5.out.y
    obtain ⟨s0, s1, _, _⟩ := XG5.out
    go_wp2_with fail
    clear s0 s1
    refine (add_all xn xd ln ld _).mono ?_
    rintro e v5 ⟨he, hb⟩
    rw [HY.out] at he
    subst he
    obtain ⟨u6, hw⟩ : ∃ w', (v5.setCell ⟨G, 0, none⟩ (.int .i64 yn)).setCell ⟨G, 1, none⟩ (.int .i64 yd) = w' := ⟨_, rfl⟩
    have HX6 := Lib.hid (show Wt w bn bd an ad rn rd ln ld u6 by rw [← hw]; exact (HX5.out.call hb).put HSZ.out _ _)
    have XG6 := Lib.hid (show Box u6 G yn yd by rw [← hw]; exact (XG5.out.below hb).set _ _)
    obtain ⟨s0, s1, s2, s3⟩ := XG5.out.below hb
    have HW := Lib.hid hw
    clear hb hw
    go_upto_region 8 with fail
    try rw [HW.out]
    clear HW s0 s1 s2 s3
    clear b0 b1 b2 b3
    obtain ⟨s0, s1, _, _⟩ := XG6.out
    go_wp2_with fail
    clear s0 s1
    refine (sub_all yn yd 1 1 _).mono ?_
    rintro e v6 ⟨he, hb⟩
    rw [HZ.out] at he
    subst he
    obtain ⟨u7, hw⟩ : ∃ w', (v6.setCell ⟨G, 0, none⟩ (.int .i64 zn)).setCell ⟨G, 1, none⟩ (.int .i64 zd) = w' := ⟨_, rfl⟩
    have HX7 := Lib.hid (show Wt w bn bd an ad rn rd ln ld u7 by rw [← hw]; exact (HX6.out.call hb).put HSZ.out _ _)
    have XG7 := Lib.hid (show Box u7 G zn zd by rw [← hw]; exact (XG6.out.below hb).set _ _)
    obtain ⟨s0, s1, s2, s3⟩ := XG6.out.below hb
    have HW := Lib.hid hw
    clear hb hw
    go_upto_region 10 with fail
    try rw [HW.out]
    clear HW s0 s1 s2 s3
    obtain ⟨s0, s1, s2, s3⟩ := XG7.out
    obtain ⟨e0, e1, e2, e3⟩ := HX7.out.r
    go_wp2_with fail
    exact bodyPost_ret (v := .tuple #[.agg #[.int .i64 zn, .int .i64 zd], .int .i64 ze]) (by simp [results, Try.results28, go_sem, e0, e1, e2, e3]) rfl ⟨rfl, (HX7.out.below.setCell (by show w.heap.size ≤ w.heap.size + 2; omega) _).setCell (by show w.heap.size ≤ w.heap.size + 2; omega) _⟩
  subst e2
  by_cases e3 : zn < 0
  · rw [if_pos ⟨rfl, e3⟩] at hk
    subst hk
    go_enter Try.func28, Try.ntmps28
    go_upto_region 1 with fail
    rw [HW.out]
    clear HW
    obtain ⟨a0, a1, a2, a3⟩ := HX.out.x
    go_wp2_with fail
    clear a0 a1 a2 a3
    refine (svunfit_any bn bd _ H1.out _).mono ?_
    rintro e u1 ⟨rfl, hb⟩
    have HX1 := Lib.hid (HX.out.call hb)
    clear hb
    obtain ⟨a0, a1, a2, a3⟩ := HX1.out.x
    go_wp2_with fail
    clear a0 a1 a2 a3
    refine (svunfit_any an ad _ H2.out _).mono ?_
    rintro e u2 ⟨rfl, hb⟩
    have HX2 := Lib.hid (HX1.out.call hb)
    clear hb
    obtain ⟨b0, b1, b2, b3⟩ := HX2.out.y
    go_wp2_with fail
    clear b0 b1 b2 b3
    refine (svfaulty_any rn rd ln ld _ H3.out _).mono ?_
    rintro e u3 ⟨rfl, hb⟩
    have HX3 := Lib.hid (HX2.out.call hb)
    clear hb
    obtain ⟨a0, a1, a2, a3⟩ := HX3.out.x
    obtain ⟨b0, b1, b2, b3⟩ := HX3.out.y
    go_wp2_with fail
    clear a0 a1 a2 a3 b0 b1 b2 b3
    refine (compare_all an ad rn rd _).mono ?_
    rintro e u4 ⟨rfl, hb⟩
    rw [HC.out]
    have HX4 := Lib.hid (HX3.out.call hb)
    clear hb
    go_upto_region 5 with fail
    obtain ⟨a0, a1, a2, a3⟩ := HX4.out.x
    obtain ⟨b0, b1, b2, b3⟩ := HX4.out.y
    go_wp2_with fail
    clear a0 a1 a2 a3 b0 b1 b2 b3
    refine (div_all bn bd rn rd _).mono ?_
    rintro e v1 ⟨he, hb⟩
    rw [HD.out] at he
    subst he
    obtain ⟨u5, hw⟩ : ∃ w', v1.alloc (.cells #[.int .i64 xn, .int .i64 xd] 23) = w' := ⟨_, rfl⟩
    have hz : Below u4.heap.size u4 u5 := by rw [← hw]; exact hb.trans ((below_box _).mono hb.size)
    have HX5 := Lib.hid (HX4.out.call hz)
    have XG5 := Lib.hid (show Box u5 v1.heap.size xn xd by rw [← hw]; exact Box.new _ _ _ _)
    have HSZ := Lib.hid (show w.heap.size + 2 < v1.heap.size from Nat.lt_of_lt_of_le HX4.out.r.lt hb.size)
    have HW := Lib.hid hw
    clear hb hw hz
    go_upto_region 6 with fail
    try rw [HW.out]
    obtain ⟨G, hG⟩ : ∃ B, v1.heap.size = B := ⟨_, rfl⟩
    rw [hG] at XG5 HSZ
    try rw [hG]
    clear HW hG
    obtain ⟨b0, b1, b2, b3⟩ := HX5.out.y
    obtain ⟨s0, s1, _, _⟩ := XG5.out
    go_wp2_with fail
    clear s0 s1
    refine (add_all xn xd ln ld _).mono ?_
    rintro e v5 ⟨he, hb⟩
    rw [HY.out] at he
    subst he
    obtain ⟨u6, hw⟩ : ∃ w', (v5.setCell ⟨G, 0, none⟩ (.int .i64 yn)).setCell ⟨G, 1, none⟩ (.int .i64 yd) = w' := ⟨_, rfl⟩
    have HX6 := Lib.hid (show Wt w bn bd an ad rn rd ln ld u6 by rw [← hw]; exact (HX5.out.call hb).put HSZ.out _ _)
    have XG6 := Lib.hid (show Box u6 G yn yd by rw [← hw]; exact (XG5.out.below hb).set _ _)
    obtain ⟨s0, s1, s2, s3⟩ := XG5.out.below hb
    have HW := Lib.hid hw
    clear hb hw
    go_upto_region 8 with fail
    try rw [HW.out]
    clear HW s0 s1 s2 s3
    clear b0 b1 b2 b3
    obtain ⟨s0, s1, _, _⟩ := XG6.out
    go_wp2_with fail
    clear s0 s1
    refine (sub_all yn yd 1 1 _).mono ?_
    rintro e v6 ⟨he, hb⟩
    rw [HZ.out] at he
    subst he
    obtain ⟨u7, hw⟩ : ∃ w', (v6.setCell ⟨G, 0, none⟩ (.int .i64 zn)).setCell ⟨G, 1, none⟩ (.int .i64 zd) = w' := ⟨_, rfl⟩
    have HX7 := Lib.hid (show Wt w bn bd an ad rn rd ln ld u7 by rw [← hw]; exact (HX6.out.call hb).put HSZ.out _ _)
    have XG7 := Lib.hid (show Box u7 G zn zd by rw [← hw]; exact (XG6.out.below hb).set _ _)
    obtain ⟨s0, s1, s2, s3⟩ := XG6.out.below hb
    have HW := Lib.hid hw
    clear hb hw
    go_upto_region 10 with fail
    try rw [HW.out]
    clear HW s0 s1 s2 s3
    obtain ⟨s0, s1, s2, s3⟩ := XG7.out
    obtain ⟨e0, e1, e2, e3⟩ := HX7.out.r
    go_wp2_with fail
    exact bodyPost_ret (v := .tuple #[.agg #[.int .i64 0, .int .i64 1], .int .i64 0]) (by simp [results, Try.results28, go_sem, e0, e1, e2, e3]) rfl ⟨rfl, (HX7.out.below.setCell (by show w.heap.size ≤ w.heap.size + 2; omega) _).setCell (by show w.heap.size ≤ w.heap.size + 2; omega) _⟩
  · rw [if_neg (fun h => e3 h.2)] at hk
    subst hk
    go_enter Try.func28, Try.ntmps28
    go_upto_region 1 with fail
    rw [HW.out]
    clear HW
    obtain ⟨a0, a1, a2, a3⟩ := HX.out.x
    go_wp2_with fail
    clear a0 a1 a2 a3
    refine (svunfit_any bn bd _ H1.out _).mono ?_
    rintro e u1 ⟨rfl, hb⟩
    have HX1 := Lib.hid (HX.out.call hb)
    clear hb
    obtain ⟨a0, a1, a2, a3⟩ := HX1.out.x
    go_wp2_with fail
    clear a0 a1 a2 a3
    refine (svunfit_any an ad _ H2.out _).mono ?_
    rintro e u2 ⟨rfl, hb⟩
    have HX2 := Lib.hid (HX1.out.call hb)
    clear hb
    obtain ⟨b0, b1, b2, b3⟩ := HX2.out.y
    go_wp2_with fail
    clear b0 b1 b2 b3
    refine (svfaulty_any rn rd ln ld _ H3.out _).mono ?_
    rintro e u3 ⟨rfl, hb⟩
    have HX3 := Lib.hid (HX2.out.call hb)
    clear hb
    obtain ⟨a0, a1, a2, a3⟩ := HX3.out.x
    obtain ⟨b0, b1, b2, b3⟩ := HX3.out.y
    go_wp2_with fail
    clear a0 a1 a2 a3 b0 b1 b2 b3
    refine (compare_all an ad rn rd _).mono ?_
    rintro e u4 ⟨rfl, hb⟩
    rw [HC.out]
    have HX4 := Lib.hid (HX3.out.call hb)
    clear hb
    go_upto_region 5 with fail
    obtain ⟨a0, a1, a2, a3⟩ := HX4.out.x
    obtain ⟨b0, b1, b2, b3⟩ := HX4.out.y
    go_wp2_with fail
    clear a0 a1 a2 a3 b0 b1 b2 b3
    refine (div_all bn bd rn rd _).mono ?_
    rintro e v1 ⟨he, hb⟩
    rw [HD.out] at he
    subst he
    obtain ⟨u5, hw⟩ : ∃ w', v1.alloc (.cells #[.int .i64 xn, .int .i64 xd] 23) = w' := ⟨_, rfl⟩
    have hz : Below u4.heap.size u4 u5 := by rw [← hw]; exact hb.trans ((below_box _).mono hb.size)
    have HX5 := Lib.hid (HX4.out.call hz)
    have XG5 := Lib.hid (show Box u5 v1.heap.size xn xd by rw [← hw]; exact Box.new _ _ _ _)
    have HSZ := Lib.hid (show w.heap.size + 2 < v1.heap.size from Nat.lt_of_lt_of_le HX4.out.r.lt hb.size)
    have HW := Lib.hid hw
    clear hb hw hz
    go_upto_region 6 with fail
    try rw [HW.out]
    obtain ⟨G, hG⟩ : ∃ B, v1.heap.size = B := ⟨_, rfl⟩
    rw [hG] at XG5 HSZ
    try rw [hG]
    clear HW hG
    obtain ⟨b0, b1, b2, b3⟩ := HX5.out.y
    obtain ⟨s0, s1, _, _⟩ := XG5.out
    go_wp2_with fail
    clear s0 s1
    refine (add_all xn xd ln ld _).mono ?_
    rintro e v5 ⟨he, hb⟩
    rw [HY.out] at he
    subst he
    obtain ⟨u6, hw⟩ : ∃ w', (v5.setCell ⟨G, 0, none⟩ (.int .i64 yn)).setCell ⟨G, 1, none⟩ (.int .i64 yd) = w' := ⟨_, rfl⟩
    have HX6 := Lib.hid (show Wt w bn bd an ad rn rd ln ld u6 by rw [← hw]; exact (HX5.out.call hb).put HSZ.out _ _)
    have XG6 := Lib.hid (show Box u6 G yn yd by rw [← hw]; exact (XG5.out.below hb).set _ _)
    obtain ⟨s0, s1, s2, s3⟩ := XG5.out.below hb
    have HW := Lib.hid hw
    clear hb hw
    go_upto_region 8 with fail
    try rw [HW.out]
    clear HW s0 s1 s2 s3
    clear b0 b1 b2 b3
    obtain ⟨s0, s1, _, _⟩ := XG6.out
    go_wp2_with fail
    clear s0 s1
    refine (sub_all yn yd 1 1 _).mono ?_
    rintro e v6 ⟨he, hb⟩
    rw [HZ.out] at he
    subst he
    obtain ⟨u7, hw⟩ : ∃ w', (v6.setCell ⟨G, 0, none⟩ (.int .i64 zn)).setCell ⟨G, 1, none⟩ (.int .i64 zd) = w' := ⟨_, rfl⟩
    have HX7 := Lib.hid (show Wt w bn bd an ad rn rd ln ld u7 by rw [← hw]; exact (HX6.out.call hb).put HSZ.out _ _)
    have XG7 := Lib.hid (show Box u7 G zn zd by rw [← hw]; exact (XG6.out.below hb).set _ _)
    obtain ⟨s0, s1, s2, s3⟩ := XG6.out.below hb
    have HW := Lib.hid hw
    clear hb hw
    go_upto_region 10 with fail
    try rw [HW.out]
    clear HW s0 s1 s2 s3
    obtain ⟨s0, s1, s2, s3⟩ := XG7.out
    obtain ⟨e0, e1, e2, e3⟩ := HX7.out.r
    go_wp2_with fail
    exact bodyPost_ret (v := .tuple #[.agg #[.int .i64 zn, .int .i64 zd], .int .i64 0]) (by simp [results, Try.results28, go_sem, e0, e1, e2, e3]) rfl ⟨rfl, (HX7.out.below.setCell (by show w.heap.size ≤ w.heap.size + 2; omega) _).setCell (by show w.heap.size ≤ w.heap.size + 2; omega) _⟩

end Go.Proofs.Ytjipmkgnndldpaa

namespace Go.Proofs.Ytjipmkgnndldpaa
open Go.RowKit
set_option linter.unusedSimpArgs false
set_option linter.unusedVariables false

/-- The pace so far in box L; the function's result is still empty. -/
structure Fp (w wx : World) (L : Nat) (r : Pk) : Prop where
  res : Pq4 wx w.heap.size 0 0 0 0
  box : Pq4 wx L r.rn r.rd r.ln r.ld
  lt : w.heap.size < L
  below : Below w.heap.size w wx
theorem Fp.call {w u v : World} {L : Nat} {r : Pk} (h : Fp w u L r) (hb : Below u.heap.size u v) : Fp w v L r :=
  ⟨h.res.below hb, h.box.below hb, h.lt, h.below.trans (hb.mono h.below.size)⟩
theorem Fp.lay {w u : World} {L : Nat} {r t : Pk} (h : Fp w u L r) :
    Fp w ((((u.setCell ⟨L, 0, none⟩ (.int .i64 t.rn)).setCell ⟨L, 1, none⟩ (.int .i64 t.rd)).setCell ⟨L, 2, none⟩ (.int .i64 t.ln)).setCell ⟨L, 3, none⟩ (.int .i64 t.ld)) L t := by
  have hl := h.lt
  exact ⟨(((h.res.other (by omega) _ _).other (by omega) _ _).other (by omega) _ _).other (by omega) _ _, h.box.set _ _ _ _, hl, svbelow4 h.below (by omega) _ _ _ _⟩
theorem Fp.post {w u : World} {L : Nat} {r : Pk} (h : Fp w u L r) :
    GivesPk r w (.returned (.tuple #[bucketV r.rn r.rd r.ln r.ld, .int .i64 r.c])) ((((u.setCell ⟨w.heap.size, 0, none⟩ (.int .i64 r.rn)).setCell ⟨w.heap.size, 1, none⟩ (.int .i64 r.rd)).setCell ⟨w.heap.size, 2, none⟩ (.int .i64 r.ln)).setCell ⟨w.heap.size, 3, none⟩ (.int .i64 r.ld)) :=
  ⟨rfl, svbelow4 h.below (Nat.le_refl _) _ _ _ _⟩
theorem RowB.other4 {u : World} {B off L : Nat} {bs : List Bkt} (h : RowB u B off bs) (hq : B ≠ L) (y0 y1 y2 y3 : Value) : RowB ((((u.setCell ⟨L, 0, none⟩ y0).setCell ⟨L, 1, none⟩ y1).setCell ⟨L, 2, none⟩ y2).setCell ⟨L, 3, none⟩ y3) B off bs :=
  (((h.other hq _ _).other hq _ _).other hq _ _).other hq _ _
theorem chainF_c0 {bs : List Bkt} {k : Nat} (h : (chainF bs k).c = 0) {b : Bkt} (hb : bs[k + 1]? = some b) : chainF bs (k + 1) = linkA ⟨(chainF bs k).rn, (chainF bs k).rd, (chainF bs k).ln, (chainF bs k).ld, 0⟩ b := by
  show stepA (chainF bs k) (bs.getD (k + 1) default) = _
  unfold stepA
  rw [if_pos h, getD_some hb]
  generalize chainF bs k = r at h
  obtain ⟨a1, a2, a3, a4, a5⟩ := r
  have h2 : a5 = 0 := h
  subst h2
  rfl

set_option maxRecDepth 100000 in
set_option maxHeartbeats 3200000 in
theorem foldedP_any (B K cap : Nat) (bs : List Bkt) (hk : bs.length = K) (h0 : 1 ≤ K) (hK : K ≤ 1000) (hcap : K ≤ cap) (w : World) (h : RowB w B 0 bs) :
    Calls Try.prog 102 #[.slice (some ⟨B, 0, none⟩) K cap, .func (.func 103) #[] #[]] w (GivesPk (chainF bs (bs.length - 1)) w) := by
  have KR := Lib.hid (Pq4.new w 0 0 0 0 25)
  have hB := below_box (w := w) (.cells #[.int .i64 0, .int .i64 0, .int .i64 0, .int .i64 0] 25)
  have HL := Lib.hid (h.under hB)
  have HB := Lib.hid hB
  have HK := Lib.hid hk
  obtain ⟨b0, hb0⟩ : ∃ b, bs[0]? = some b := ⟨_, List.getElem?_eq_getElem (by omega)⟩
  have HBW := Lib.hid (show B < w.heap.size from lt_of_cell (h.at0 hb0).1)
  clear h hB
  obtain ⟨ans, hans⟩ : ∃ r, chainF bs (bs.length - 1) = r := ⟨_, rfl⟩
  rw [hans]
  have HZ := Lib.hid hans.symm
  clear hans
  obtain ⟨W, hW⟩ : ∃ W, w.alloc (.cells #[.int .i64 0, .int .i64 0, .int .i64 0, .int .i64 0] 25) = W := ⟨_, rfl⟩
  have HWS := Lib.hid (show W.heap.size = w.heap.size + 1 by rw [← hW]; simp)
  rw [hW] at KR HL HB
  have HW := Lib.hid hW
  have HB0 := Lib.hid hb0
  clear hW hb0
  obtain ⟨r0, hr0⟩ : ∃ r : Pk, r = ⟨b0.bn, b0.bd, b0.rn, b0.rd, 0⟩ := ⟨_, rfl⟩
  have HR0 := Lib.hid (show chainF bs 0 = ⟨b0.bn, b0.bd, b0.rn, b0.rd, 0⟩ by unfold chainF; rw [getD_some HB0.out])
  clear r0 hr0
  obtain ⟨M, hM⟩ : ∃ M : Nat, K = M + 1 := ⟨K - 1, by omega⟩
  have hMi : (K : Int) - 1 = (M : Int) := by omega
  have hMn : K - 1 = M := by omega
  have hM2 : 1 ≤ K := h0
  have HMM := Lib.hid hM
  clear hM hk
  obtain ⟨w3, hw⟩ : ∃ w', W.alloc (.cells #[.int .i64 b0.bn, .int .i64 b0.bd, .int .i64 b0.rn, .int .i64 b0.rd] 25) = w' := ⟨_, rfl⟩
  have hz : Below W.heap.size W w3 := by rw [← hw]; exact below_box _
  have S0 := Lib.hid (show Fp w w3 W.heap.size ⟨b0.bn, b0.bd, b0.rn, b0.rd, 0⟩ from ⟨KR.out.below hz, by rw [← hw]; exact Pq4.new _ _ _ _ _ _, KR.out.lt, HB.out.trans (hz.mono HB.out.size)⟩)
  have HL3 := Lib.hid (HL.out.under hz)
  have HBL0 := Lib.hid (show B ≠ W.heap.size from by have := HBW.out; have := HWS.out; omega)
  have HW3 := Lib.hid hw
  obtain ⟨c0, c1, c2, c3⟩ := HL.out.at0 HB0.out
  rw [Nat.zero_mul] at c0 c1 c2 c3
  clear hw hz
  go_enter Try.func102, Try.ntmps102
  go_upto_region 1 with fail
  rw [HW.out]
  go_upto_region 2 with fail
  try rw [HW3.out]
  obtain ⟨L, hL⟩ : ∃ L, W.heap.size = L := ⟨_, rfl⟩
  rw [hL] at S0 HBL0
  have HBL := HBL0
  try rw [hL]
  clear HW HW3 hL c0 c1 c2 c3 HBL0
  have HR0' := HR0
  by_cases hcp : cap = 1
  · subst hcp
    obtain rfl : M = 0 := by omega
    go_wp2_with fail
    go_loopw [16, 7] (fun s16 s7 wx => ∃ (k : Nat) (r : Pk), s16 = .int .i64 k ∧ s7 = .int .i64 r.c ∧ r.c = 0 ∧ k ≤ 0 ∧ Hid (chainF bs k = r) ∧ Hid (Fp w wx L r) ∧ Hid (RowB wx B 0 bs)) (fun s16 _ _ => 0 - (intOf s16).toNat)
    case atStart => exact ⟨0, ⟨b0.bn, b0.bd, b0.rn, b0.rd, 0⟩, by go_num, rfl, rfl, Nat.zero_le _, HR0, S0, HL3⟩
    case round =>
      obtain ⟨k, r, rfl, rfl, hc0, hk, HF, HS, HB⟩ := hrel
      obtain ⟨wk, rfl⟩ : ∃ u : World, u = wr := ⟨_, rfl⟩
      by_cases hlt : k < 0
      · exact absurd hlt (by omega)
      · obtain rfl : k = 0 := by omega
        have HZ2 := Lib.hid (show ans = r by rw [HZ.out, ← HF.out, show bs.length - 1 = 0 from by have := HK.out; have := HMM.out; omega])
        have HP := Lib.hid HS.out.post
        obtain ⟨c0, c1, c2, c3, _, _, _, _⟩ := HS.out.box
        obtain ⟨e0, e1, e2, e3, e4, e5, e6, e7⟩ := HS.out.res
        have hl1 := HS.out.lt
        have hl2 : ¬ w.heap.size = L := by omega
        have hl3 : ¬ L = w.heap.size := by omega
        go_wp2_with fail
        refine bodyPost_ret (v := .tuple #[bucketV r.rn r.rd r.ln r.ld, .int .i64 r.c]) (by simp [results, Try.results102, go_sem, e0, e1, e2, e3, e4, e5, e6, e7]) rfl ?_
        rw [HZ2.out]; exact HP.out
  · have hcp2 : ¬ cap - 1 = 0 := by omega
    go_wp2_with fail
    go_loopw [16, 7] (fun s16 s7 wx => ∃ (k : Nat) (r : Pk), s16 = .int .i64 k ∧ s7 = .int .i64 r.c ∧ r.c = 0 ∧ k ≤ M ∧ Hid (chainF bs k = r) ∧ Hid (Fp w wx L r) ∧ Hid (RowB wx B 0 bs)) (fun s16 _ _ => M - (intOf s16).toNat)
    case atStart => exact ⟨0, ⟨b0.bn, b0.bd, b0.rn, b0.rd, 0⟩, by go_num, rfl, rfl, Nat.zero_le _, HR0, S0, HL3⟩
    case round =>
      obtain ⟨k, r, rfl, rfl, hc0, hk, HF, HS, HB⟩ := hrel
      obtain ⟨wk, rfl⟩ : ∃ u : World, u = wr := ⟨_, rfl⟩
      by_cases hlt : k < M
      · obtain ⟨b, hb⟩ : ∃ b, bs[k + 1]? = some b := ⟨_, List.getElem?_eq_getElem (by have := HK.out; have := HMM.out; omega)⟩
        obtain ⟨t, ht⟩ : ∃ t, linkA ⟨r.rn, r.rd, r.ln, r.ld, 0⟩ b = t := ⟨_, rfl⟩
        have HFN := Lib.hid (show chainF bs (k + 1) = t by
          have h := chainF_c0 (bs := bs) (k := k) (by rw [HF.out]; exact hc0) hb
          rw [HF.out, ht] at h; exact h)
        have HCA := Lib.hid (show ∀ u, Calls Try.prog 103 #[bucketV r.rn r.rd r.ln r.ld, bucketV b.bn b.bd b.rn b.rd] u (GivesPk t u) from fun u => by rw [← ht]; exact chained_any ⟨r.rn, r.rd, r.ln, r.ld⟩ b u)
        obtain ⟨c0, c1, c2, c3⟩ := HB.out (k + 1) b hb
        rw [show 0 + (k + 1) * 4 = 4 + k * 4 by omega] at c0 c1 c2 c3
        have hki : (k : Int) < (M : Int) := by omega
        obtain ⟨w2, hw⟩ : ∃ w', wk.alloc (.cells #[.int .i64 b.bn, .int .i64 b.bd, .int .i64 b.rn, .int .i64 b.rd] 25) = w' := ⟨_, rfl⟩
        have hz : Below wk.heap.size wk w2 := by rw [← hw]; exact below_box _
        have S2 := Lib.hid (HS.out.call hz)
        have XB := Lib.hid (show Bk4 w2 wk.heap.size b.bn b.bd b.rn b.rd by rw [← hw]; exact Bk4.new _ _ _ _ _ _)
        have HB2 := Lib.hid (HB.out.under hz)
        have HW := Lib.hid hw
        have HC0 := Lib.hid hc0
        clear hb hw hz HB HS ht hc0
        go_upto_region 5 with fail
        try rw [HW.out]
        obtain ⟨G, hG⟩ : ∃ B, wk.heap.size = B := ⟨_, rfl⟩
        rw [hG] at XB
        try rw [hG]
        clear HW hG c0 c1 c2 c3
        obtain ⟨c0, c1, c2, c3, _, _, _, _⟩ := S2.out.box
        obtain ⟨d0, d1, d2, d3⟩ := XB.out
        go_wp2_with fail
        clear c0 c1 c2 c3 d0 d1 d2 d3
        refine (HCA.out _).mono ?_
        rintro e w3 ⟨rfl, hb⟩
        have S3 := Lib.hid (S2.out.call hb)
        obtain ⟨w4, hw⟩ : ∃ w', ((((w3.setCell ⟨L, 0, none⟩ (.int .i64 t.rn)).setCell ⟨L, 1, none⟩ (.int .i64 t.rd)).setCell ⟨L, 2, none⟩ (.int .i64 t.ln)).setCell ⟨L, 3, none⟩ (.int .i64 t.ld)) = w' := ⟨_, rfl⟩
        have S4 := Lib.hid (show Fp w w4 L t by rw [← hw]; exact S3.out.lay)
        have HB4 := Lib.hid (show RowB w4 B 0 bs by rw [← hw]; exact (HB2.out.under hb).other4 HBL.out _ _ _ _)
        obtain ⟨c0, c1, c2, c3, c4, c5, c6, c7⟩ := S3.out.box
        have HW := Lib.hid hw
        clear hb hw
        go_upto_region 6 with fail
        try rw [HW.out]
        clear HW c0 c1 c2 c3 c4 c5 c6 c7
        by_cases htc : t.c = 0
        · have ec : (t.c != 0) = false := by simpa using htc
          have ec2 : (t.c == 0) = true := by simpa using htc
          have HTC := Lib.hid htc
          clear htc
          go_wp2_with fail
          go_roundw
          case rel => exact ⟨k + 1, t, by go_num, rfl, HTC.out, by omega, HFN, S4, HB4⟩
          case measure => simp [intOf]; omega
        · have ec : (t.c != 0) = true := by simpa using htc
          have ec2 : (t.c == 0) = false := by simpa using htc
          have HZ2 := Lib.hid (show ans = t by
            have h := chainF_stop (bs := bs) (k := k + 1) (by rw [HFN.out]; exact htc) (bs.length - 1 - (k + 1))
            rw [HFN.out, show k + 1 + (bs.length - 1 - (k + 1)) = bs.length - 1 by have := HK.out; have := HMM.out; omega] at h
            rw [HZ.out, h])
          obtain ⟨r, hr⟩ : ∃ r, t = r := ⟨_, rfl⟩
          rw [hr] at HZ2 S4 ec ec2 ⊢
          have HS := S4
          clear htc
          have HP := Lib.hid HS.out.post
          obtain ⟨c0, c1, c2, c3, _, _, _, _⟩ := HS.out.box
          obtain ⟨e0, e1, e2, e3, e4, e5, e6, e7⟩ := HS.out.res
          have hl1 := HS.out.lt
          have hl2 : ¬ w.heap.size = L := by omega
          have hl3 : ¬ L = w.heap.size := by omega
          go_wp2_with fail
          refine bodyPost_ret (v := .tuple #[bucketV r.rn r.rd r.ln r.ld, .int .i64 r.c]) (by simp [results, Try.results102, go_sem, e0, e1, e2, e3, e4, e5, e6, e7]) rfl ?_
          rw [HZ2.out]; exact HP.out

      · obtain rfl : k = M := by omega
        have HZ2 := Lib.hid (show ans = r by rw [HZ.out, ← HF.out, show bs.length - 1 = k from by have := HK.out; have := HMM.out; omega])
        have HP := Lib.hid HS.out.post
        obtain ⟨c0, c1, c2, c3, _, _, _, _⟩ := HS.out.box
        obtain ⟨e0, e1, e2, e3, e4, e5, e6, e7⟩ := HS.out.res
        have hl1 := HS.out.lt
        have hl2 : ¬ w.heap.size = L := by omega
        have hl3 : ¬ L = w.heap.size := by omega
        go_wp2_with fail
        refine bodyPost_ret (v := .tuple #[bucketV r.rn r.rd r.ln r.ld, .int .i64 r.c]) (by simp [results, Try.results102, go_sem, e0, e1, e2, e3, e4, e5, e6, e7]) rfl ?_
        rw [HZ2.out]; exact HP.out

set_option maxRecDepth 100000 in
set_option maxHeartbeats 1600000 in
theorem chain_any (B K cap : Nat) (bs : List Bkt) (hk : bs.length = K) (hK : K ≤ 1000) (hcap : K ≤ cap) (w : World) (h : RowB w B 0 bs) :
    Calls Try.prog 26 #[.slice (some ⟨B, 0, none⟩) K cap] w (GivesPk (chainA bs) w) := by
  have KR := Lib.hid (Pq4.new w 0 0 0 0 25)
  have hB := below_box (w := w) (.cells #[.int .i64 0, .int .i64 0, .int .i64 0, .int .i64 0] 25)
  have HL := Lib.hid (h.under hB)
  have HB := Lib.hid hB
  have HK := Lib.hid hk
  clear h hB
  obtain ⟨W, hW⟩ : ∃ W, w.alloc (.cells #[.int .i64 0, .int .i64 0, .int .i64 0, .int .i64 0] 25) = W := ⟨_, rfl⟩
  rw [hW] at KR HL HB
  have HW := Lib.hid hW
  clear hW
  by_cases h0 : K = 0
  · subst h0
    rw [chainA_zero hk]
    clear hk
    go_enter Try.func26, Try.ntmps26
    go_upto_region 1 with fail
    rw [HW.out]
    obtain ⟨e0, e1, e2, e3, e4, e5, e6, e7⟩ := KR.out
    go_wp2_with fail
    exact bodyPost_ret (v := .tuple #[bucketV 0 0 0 0, .int .i64 2]) (by simp [results, Try.results26, go_sem, e0, e1, e2, e3, e4, e5, e6, e7]) rfl ⟨rfl, svbelow4 HB.out (Nat.le_refl _) _ _ _ _⟩
  have h0i : ¬ (K : Int) = 0 := by omega
  have h0b : ((K : Int) == 0) = false := by simpa using h0
  cases hbad : badL bs with
  | true =>
    rw [chainA_bad hbad]
    have HBD := Lib.hid hbad
    clear hbad hk
    go_enter Try.func26, Try.ntmps26
    go_upto_region 1 with fail
    rw [HW.out]
    go_wp2_with fail
    refine (svcontains_any B K cap bs HK.out hK true HBD.out _ HL.out).mono ?_
    rintro e u1 ⟨rfl, hb⟩
    have HB1 := Lib.hid (HB.out.trans (hb.mono HB.out.size))
    obtain ⟨e0, e1, e2, e3, e4, e5, e6, e7⟩ := KR.out.below hb
    clear hb
    go_wp2_with fail
    exact bodyPost_ret (v := .tuple #[bucketV 0 0 0 0, .int .i64 2]) (by simp [results, Try.results26, go_sem, e0, e1, e2, e3, e4, e5, e6, e7]) rfl ⟨rfl, svbelow4 HB1.out (Nat.le_refl _) _ _ _ _⟩
  | false =>
    rw [chainA_fold (by omega) hbad]
    have HBD := Lib.hid hbad
    obtain ⟨ans, hans⟩ : ∃ r, chainF bs (bs.length - 1) = r := ⟨_, rfl⟩
    have HFO := Lib.hid (show ∀ u, RowB u B 0 bs → Calls Try.prog 102 #[.slice (some ⟨B, 0, none⟩) K cap, .func (.func 103) #[] #[]] u (GivesPk ans u) from fun u hu => by rw [← hans]; exact foldedP_any B K cap bs hk (by omega) hK hcap u hu)
    rw [hans]
    clear hbad hk hans
    go_enter Try.func26, Try.ntmps26
    go_upto_region 1 with fail
    rw [HW.out]
    go_wp2_with fail
    refine (svcontains_any B K cap bs HK.out hK false HBD.out _ HL.out).mono ?_
    rintro e u1 ⟨rfl, hb⟩
    have HB1 := Lib.hid (HB.out.trans (hb.mono HB.out.size))
    have KR1 := Lib.hid (KR.out.below hb)
    have HL1 := Lib.hid (HL.out.under hb)
    clear hb
    go_wp2_with fail
    refine (HFO.out _ HL1.out).mono ?_
    rintro e u2 ⟨rfl, hb⟩
    have HB2 := Lib.hid (HB1.out.trans (hb.mono HB1.out.size))
    obtain ⟨e0, e1, e2, e3, e4, e5, e6, e7⟩ := KR1.out.below hb
    clear hb
    go_wp2_with fail
    exact bodyPost_ret (v := .tuple #[bucketV ans.rn ans.rd ans.ln ans.ld, .int .i64 ans.c]) (by simp [results, Try.results26, go_sem, e0, e1, e2, e3, e4, e5, e6, e7]) rfl ⟨rfl, svbelow4 HB2.out (Nat.le_refl _) _ _ _ _⟩

end Go.Proofs.Ytjipmkgnndldpaa
