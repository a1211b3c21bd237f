/- What Least answers, of a list of buckets: each Token and the Minimum of the result so far and the next one. By the verifier's side. -/
import Derived.Test.YtjipmkgnndldpaaFBkG
import Derived.Test.YtjipmkgnndldpaaFCloR
namespace Go.Proofs.Ytjipmkgnndldpaa
open Go.RowKit
set_option linter.unusedSimpArgs false
set_option linter.unusedVariables false

/-- What Minimum answers, of two valid curves. -/
def MinIs (z1 : List Int) (p1 : Nat) (i1 : Int) (z2 : List Int) (p2 : Nat) (i2 : Int) (zs : List Int) (p inc c : Int) : Prop :=
  ∃ L, LcmN z1 p1 i1 z2 p2 i2 L ∧ ((L ≤ 120 ∧ EIs (eMin z1 p1 i1 z2 p2 i2) zs p inc c) ∨ (120 < L ∧ c = 3 ∧ zs = [] ∧ p = 0 ∧ inc = 0))
theorem minIs_ex {z1 : List Int} {p1 : Nat} {i1 : Int} {z2 : List Int} {p2 : Nat} {i2 : Int} (g1 : Good z1 p1 i1) (g2 : Good z2 p2 i2) : ∃ (zs : List Int) (p inc c : Int), MinIs z1 p1 i1 z2 p2 i2 zs p inc c := by
  obtain ⟨y1, q1, j1, m1⟩ := g1.norm_ex
  obtain ⟨y2, q2, j2, m2⟩ := g2.norm_ex
  by_cases h : q1 / Nat.gcd q1 q2 * q2 ≤ 120
  · obtain ⟨zs, p, inc, c, k⟩ := eis_ex (eMin z1 p1 i1 z2 p2 i2)
    exact ⟨zs, p, inc, c, _, ⟨_, _, _, _, _, _, m1, m2, rfl⟩, .inl ⟨h, k⟩⟩
  · exact ⟨[], 0, 0, 3, _, ⟨_, _, _, _, _, _, m1, m2, rfl⟩, .inr ⟨by omega, rfl, rfl, rfl, rfl⟩⟩
theorem min_ce {a1 : Option Addr} {n1 cap1 : Nat} {z1 : List Int} {p1 : Nat} {i1 : Int} (g1 : Good z1 p1 i1) {a2 : Option Addr} {n2 cap2 : Nat} {z2 : List Int} {p2 : Nat} {i2 : Int} (g2 : Good z2 p2 i2) {zs : List Int} {p inc c : Int} (h : MinIs z1 p1 i1 z2 p2 i2 zs p inc c) (w : World) (h1 : RowZ w a1 n1 cap1 z1) (h2 : RowZ w a2 n2 cap2 z2) :
    Calls Try.prog 47 #[curV a1 n1 cap1 p1 i1, curV a2 n2 cap2 p2 i2] w (GivesCE zs p inc c w) := by
  obtain ⟨L, hL, ⟨hl, hE⟩ | ⟨hl, rfl, rfl, rfl, rfl⟩⟩ := h
  · exact (min_ok a1 n1 cap1 z1 p1 i1 g1 a2 n2 cap2 z2 p2 i2 g2 L hL hl w h1 h2).mono fun _ _ k => hE.ce k
  · obtain ⟨y1, q1, j1, y2, q2, j2, hn1, hn2, hq⟩ := hL
    exact (min_bad 3 a1 n1 cap1 p1 i1 a2 n2 cap2 p2 i2 (fun W k1 k2 => pair_lim _ a1 n1 cap1 z1 p1 i1 g1 a2 n2 cap2 z2 p2 i2 g2 hn1 hn2 L hq hl W k1 k2) w h1 h2).mono fun _ _ k => k.ce
theorem rmin_ce {a1 : Option Addr} {n1 cap1 : Nat} {z1 : List Int} {p1 : Nat} {i1 : Int} (g1 : Good z1 p1 i1) {a2 : Option Addr} {n2 cap2 : Nat} {z2 : List Int} {p2 : Nat} {i2 : Int} (g2 : Good z2 p2 i2) {zs : List Int} {p inc c : Int} (h : MinIs z1 p1 i1 z2 p2 i2 zs p inc c) (w : World) (h1 : RowZ w a1 n1 cap1 z1) (h2 : RowZ w a2 n2 cap2 z2) :
    Calls Try.prog 48 #[curV a1 n1 cap1 p1 i1, curV a2 n2 cap2 p2 i2] w (GivesCE zs p inc c w) := by
  obtain ⟨L, hL, ⟨hl, hE⟩ | ⟨hl, rfl, rfl, rfl, rfl⟩⟩ := h
  · exact (rmin_ok a1 n1 cap1 z1 p1 i1 g1 a2 n2 cap2 z2 p2 i2 g2 L hL hl w h1 h2).mono fun _ _ k => hE.ce k
  · exact (rmin_lim a1 n1 cap1 z1 p1 i1 g1 a2 n2 cap2 z2 p2 i2 g2 L hL hl w h1 h2).mono fun _ _ k => k.ce

/-- A bucket, and an answer. -/
structure Bkt where
  bn : Int
  bd : Int
  rn : Int
  rd : Int
structure Rs where
  zs : List Int
  p : Int
  inc : Int
  c : Int
instance : Inhabited Bkt := ⟨⟨0, 0, 0, 0⟩⟩
def Bkt.ok (b : Bkt) : Bool := okB b.bn b.bd && okB b.rn b.rd
/-- A curve that is valid, or the zero curve and an error. -/
def Rs.ok (r : Rs) : Prop := (r.c = 0 ∧ ∃ q : Nat, r.p = q ∧ Good r.zs q r.inc) ∨ (¬ r.c = 0 ∧ r.zs = [] ∧ r.p = 0 ∧ r.inc = 0)
def Rs.Pas (b : Bkt) (r : Rs) : Prop := PasIs b.bn.toNat b.bd.toNat b.rn.toNat b.rd.toNat r.zs r.p r.inc r.c
theorem EIs.okR {E : Nat → Option Int} {zs : List Int} {p inc c : Int} (h : EIs E zs p inc c) : Rs.ok ⟨zs, p, inc, c⟩ := by
  rcases h with ⟨rfl, q, rfl, hf⟩ | ⟨rfl, rfl, rfl, rfl, _⟩
  · exact .inl ⟨rfl, q, rfl, hf.good⟩
  · exact .inr ⟨by show ¬ (3 : Int) = 0; omega, rfl, rfl, rfl⟩
theorem Rs.Pas.ok {b : Bkt} {r : Rs} (h : Rs.Pas b r) : r.ok := by
  rcases h with ⟨_, h⟩ | ⟨_, h1, h2, h3, h4⟩
  · exact h.okR
  · exact .inr ⟨by omega, h2, h3, h4⟩
noncomputable def pasA (b : Bkt) : Rs :=
  have h : ∃ r, Rs.Pas b r := by
    obtain ⟨zs, p, inc, c, h⟩ := pasIs_ex b.bn.toNat b.bd.toNat b.rn.toNat b.rd.toNat
    exact ⟨⟨zs, p, inc, c⟩, h⟩
  Classical.choose h
theorem pasA_is (b : Bkt) : Rs.Pas b (pasA b) := Classical.choose_spec (p := fun r => Rs.Pas b r) _
def Rs.Min (r s t : Rs) : Prop := ∀ (p q : Nat), r.p = p → s.p = q → Good r.zs p r.inc → Good s.zs q s.inc → MinIs r.zs p r.inc s.zs q s.inc t.zs t.p t.inc t.c
theorem min_exR (r s : Rs) : ∃ t, Rs.Min r s t := by
  by_cases h : (∃ p : Nat, r.p = p ∧ Good r.zs p r.inc) ∧ ∃ q : Nat, s.p = q ∧ Good s.zs q s.inc
  · obtain ⟨⟨p, hp, g1⟩, q, hq, g2⟩ := h
    obtain ⟨zs, p', inc, c, h⟩ := minIs_ex g1 g2
    refine ⟨⟨zs, p', inc, c⟩, fun p2 q2 h1 h2 _ _ => ?_⟩
    obtain rfl : p2 = p := by rw [hp] at h1; exact (Int.ofNat.inj h1).symm
    obtain rfl : q2 = q := by rw [hq] at h2; exact (Int.ofNat.inj h2).symm
    exact h
  · exact ⟨r, fun p q h1 h2 g1 g2 => absurd ⟨⟨p, h1, g1⟩, q, h2, g2⟩ h⟩
noncomputable def minA (r s : Rs) : Rs := Classical.choose (min_exR r s)
theorem minA_is (r s : Rs) : Rs.Min r s (minA r s) := Classical.choose_spec (min_exR r s)
theorem Rs.Min.ok {r s t : Rs} (h : Rs.Min r s t) {p q : Nat} (h1 : r.p = p) (h2 : s.p = q) (g1 : Good r.zs p r.inc) (g2 : Good s.zs q s.inc) : t.ok := by
  obtain ⟨L, _, ⟨_, hE⟩ | ⟨_, k1, k2, k3, k4⟩⟩ := h p q h1 h2 g1 g2
  · exact hE.okR
  · exact .inr ⟨by omega, k2, k3, k4⟩

/-- The answer behind one bucket more. -/
noncomputable def nextA (r : Rs) (b : Bkt) : Rs :=
  open Classical in if r.c = 0 then (if (pasA b).c = 0 then minA r (pasA b) else ⟨[], 0, 0, (pasA b).c⟩) else r
/-- The answer behind the first k + 1 buckets. -/
noncomputable def foldA (bs : List Bkt) : Nat → Rs
  | 0 => pasA (bs.getD 0 default)
  | k + 1 => nextA (foldA bs k) (bs.getD (k + 1) default)
theorem nextA_ok {r : Rs} (h : r.ok) (b : Bkt) : (nextA r b).ok := by
  unfold nextA
  by_cases h0 : r.c = 0
  · rw [if_pos h0]
    by_cases h1 : (pasA b).c = 0
    · rw [if_pos h1]
      rcases h with ⟨_, p, hp, g1⟩ | ⟨h, _⟩
      · rcases (pasA_is b).ok with ⟨_, q, hq, g2⟩ | ⟨h, _⟩
        · exact (minA_is r (pasA b)).ok hp hq g1 g2
        · exact absurd h1 h
      · exact absurd h0 h
    · rw [if_neg h1]; exact .inr ⟨h1, rfl, rfl, rfl⟩
  · rw [if_neg h0]; exact h
theorem foldA_ok (bs : List Bkt) : ∀ k, (foldA bs k).ok
  | 0 => (pasA_is _).ok
  | k + 1 => nextA_ok (foldA_ok bs k) _
/-- What Least answers. -/
noncomputable def bleastA (bs : List Bkt) : Rs :=
  open Classical in if bs.length = 0 then ⟨[], 0, 0, 2⟩ else if 20 < bs.length then ⟨[], 0, 0, 3⟩ else if (∃ b ∈ bs, b.ok = false) then ⟨[], 0, 0, 2⟩ else foldA bs (bs.length - 1)

/-- A list of buckets in a block. -/
def RowB (u : World) (B off : Nat) (bs : List Bkt) : Prop :=
  ∀ i b, bs[i]? = some b → u.cell? ⟨B, off + i * 4, none⟩ = some (.int .i64 b.bn) ∧ u.cell? ⟨B, off + i * 4 + 1, none⟩ = some (.int .i64 b.bd) ∧ u.cell? ⟨B, off + i * 4 + 2, none⟩ = some (.int .i64 b.rn) ∧ u.cell? ⟨B, off + i * 4 + 3, none⟩ = some (.int .i64 b.rd)
theorem RowB.under {u v : World} {B off : Nat} {bs : List Bkt} (h : RowB u B off bs) (hb : Below u.heap.size u v) : RowB v B off bs := fun i b hc => by
  obtain ⟨h1, h2, h3, h4⟩ := h i b hc
  exact ⟨(hb.cell (lt_of_cell h1)).trans h1, (hb.cell (lt_of_cell h2)).trans h2, (hb.cell (lt_of_cell h3)).trans h3, (hb.cell (lt_of_cell h4)).trans h4⟩
/-- What pass's answer is worth to the next minimum. -/
theorem passed_rs {b : Bkt} (hb : b.ok = true) (w : World) : Calls Try.prog 115 #[bucketV b.bn b.bd b.rn b.rd] w (GivesCE (pasA b).zs (pasA b).p (pasA b).inc (pasA b).c w) := by
  have h := pasA_is b
  unfold Bkt.ok at hb
  rw [Bool.and_eq_true] at hb
  obtain ⟨x1, x2, e1, e2, m1, m2, m3⟩ := okB_nat hb.1
  obtain ⟨x3, x4, e3, e4, m4, m5, m6⟩ := okB_nat hb.2
  unfold Rs.Pas at h
  rw [e1, e2, e3, e4] at h ⊢
  exact passed_ce h m1 m2 m3 m4 m5 m6 w
theorem rtoken_rs {b : Bkt} (hb : b.ok = true) (w : World) : Calls Try.prog 83 #[bucketV b.bn b.bd b.rn b.rd] w (GivesCE (pasA b).zs (pasA b).p (pasA b).inc (pasA b).c w) :=
  rtoken_ce (.inl ⟨hb, pasA_is b⟩) w

end Go.Proofs.Ytjipmkgnndldpaa
