/- What the walks of BucketAdds and BucketCovers are told: comparisons, sums and minima of small buckets' curves. By the verifier's side. -/
import Derived.Test.YtombgfpheiopgaaABkH
import Derived.Test.YtombgfpheiopgaaAOrdAS
import Derived.Test.YtombgfpheiopgaaACloDCloECloF
namespace Go.Proofs.Ytombgfpheiopgaa
open Go.RowKit
set_option linter.unusedSimpArgs false
set_option linter.unusedVariables false

theorem ratMost_yes (a1 : Option Addr) (n1 cap1 : Nat) (z1 : List Int) (p1 : Nat) (i1 : Int) (g1 : Good z1 p1 i1) (a2 : Option Addr) (n2 cap2 : Nat) (z2 : List Int) (p2 : Nat) (i2 : Int) (g2 : Good z2 p2 i2) (hb : ∀ t, ole (eC z1 p1 i1 t) (eC z2 p2 i2 t)) (w : World) (h1 : RowZ w a1 n1 cap1 z1) (h2 : RowZ w a2 n2 cap2 z2) :
    Calls Try.prog 89 #[curV a1 n1 cap1 p1 i1, curV a2 n2 cap2 p2 i2] w (Says (.bool true) w) :=
  ratMost_ok a1 n1 cap1 z1 p1 i1 g1 a2 n2 cap2 z2 p2 i2 g2 _ false w h1 h2 (excP_of hb)

theorem form_per {zs : List Int} {p : Nat} {inc : Int} {E : Nat → Option Int} {F : Nat → Int} (h : EForm zs p inc E) (he : ∀ t, E t = some (F t)) {s P : Nat} {c : Int} (hp : Per F s P c) (hP : 1 ≤ P) : p ≤ P := by
  obtain ⟨g, hv, s', hs, hn⟩ := h
  have e : atC zs p inc = F := funext fun t => by
    have h1 := hv t
    rw [he t] at h1
    exact (eC_bd g h1).2.2
  rw [e] at hn
  exact hn.per_le hp hP
theorem lcm_form {z1 z2 : List Int} {p1 p2 : Nat} {i1 i2 : Int} {E1 E2 : Nat → Option Int} (h1 : EForm z1 p1 i1 E1) (h2 : EForm z2 p2 i2 E2) {P Q : Nat} (hp : p1 ≤ P) (hq : p2 ≤ Q) (hPQ : P * Q ≤ 120) : ∃ L, LcmN z1 p1 i1 z2 p2 i2 L ∧ L ≤ 120 := by
  obtain ⟨_, _, n1⟩ := norm_self h1
  obtain ⟨_, _, n2⟩ := norm_self h2
  refine ⟨_, ⟨_, _, _, _, _, _, n1, n2, rfl⟩, ?_⟩
  have e1 : p1 / Nat.gcd p1 p2 ≤ p1 := Nat.div_le_self _ _
  exact Nat.le_trans (Nat.mul_le_mul (Nat.le_trans e1 hp) hq) hPQ
theorem tok_form {zs : List Int} {p : Nat} {inc : Int} {bn bd rn rd : Nat} (h : EForm zs p inc (tokE bn bd rn rd)) (hbd : 1 ≤ bd) (hrd : 1 ≤ rd) : p ≤ rd := form_per h (fun _ => rfl) (tok_per hbd hrd) hrd

/-- Two curves, one at most the other. -/
theorem form_ole {z1 z2 : List Int} {p1 p2 : Nat} {i1 i2 : Int} {E1 E2 : Nat → Option Int} (h1 : EForm z1 p1 i1 E1) (h2 : EForm z2 p2 i2 E2) (h : ∀ t, ole (E1 t) (E2 t)) (t : Nat) : ole (eC z1 p1 i1 t) (eC z2 p2 i2 t) := by
  rw [h1.val, h2.val]; exact h t

theorem tok_subA {bn bd rn rd : Nat} (hbd : 1 ≤ bd) (hrd : 1 ≤ rd) (h : (rn + rd) * bd ≤ bn * rd) : SubA (tokE bn bd rn rd) := fun s u => ole_some (by
  have := tok_sub hbd hrd h s u
  show ((tokN bn bd rn rd (s + u) : Nat) : Int) ≤ (tokN bn bd rn rd s : Nat) + (tokN bn bd rn rd u : Nat)
  omega)
theorem stair_subA {st ev ah : Nat} (hev : 1 ≤ ev) : SubA (stairE st ev ah) := fun s u => ole_some (by
  have := stair_sub (st := st) (ah := ah) hev s u
  show ((stairN st ev ah (s + u) : Nat) : Int) ≤ (stairN st ev ah s : Nat) + (stairN st ev ah u : Nat)
  omega)
theorem form_subA {zs : List Int} {p : Nat} {inc : Int} {E : Nat → Option Int} (h : EForm zs p inc E) (hs : SubA E) : SubA (eC zs p inc) := by
  rw [show eC zs p inc = E from funext h.val]; exact hs

/-- The sum of two small buckets' curves. -/
theorem sum_tok_can {bn bd rn rd bn' bd' rn' rd' : Nat} (b1 : 1 ≤ bd) (b2 : bn ≤ 1000) (r1 : 1 ≤ rd) (r2 : rd ≤ 10) (r3 : rn ≤ 1000) (b1' : 1 ≤ bd') (b2' : bn' ≤ 1000) (r1' : 1 ≤ rd') (r2' : rd' ≤ 10) (r3' : rn' ≤ 1000) :
    ECan (fun t => oadd (tokE bn bd rn rd t) (tokE bn' bd' rn' rd' t)) := by
  have h1 : Per (tokF bn bd rn rd) 1 (rd' * rd) ((rd' : Int) * (rn : Int)) := (tok_per b1 r1).mul rd'
  have h2 : Per (tokF bn' bd' rn' rd') 1 (rd * rd') ((rd : Int) * (rn' : Int)) := (tok_per b1' r1').mul rd
  rw [Nat.mul_comm rd rd'] at h2
  have hP : Per (fun t => tokF bn bd rn rd t + tokF bn' bd' rn' rd' t) 1 (rd' * rd) ((rd' : Int) * (rn : Int) + (rd : Int) * (rn' : Int)) := fun t ht => by
    have e1 := h1 t ht
    have e2 := h2 t ht
    show tokF bn bd rn rd (t + rd' * rd) + tokF bn' bd' rn' rd' (t + rd' * rd) = _
    rw [e1, e2]; grind
  have hm : 1 ≤ rd' * rd := Nat.mul_pos r1' r1
  have hm2 : rd' * rd ≤ 10 * 10 := Nat.mul_le_mul r2' r2
  refine can_fin (F := fun t => tokF bn bd rn rd t + tokF bn' bd' rn' rd' t) (fun _ => rfl) hP hm (by omega) (by omega) (by show 0 ≤ tokF bn bd rn rd 0 + tokF bn' bd' rn' rd' 0; unfold tokF; omega) (fun t _ => ?_) ?_ ?_
  · have e1 := tok_step (bn := bn) (bd := bd) (rn := rn) (rd := rd) t
    have e2 := tok_step (bn := bn') (bd := bd') (rn := rn') (rd := rd') t
    show tokF bn bd rn rd t + tokF bn' bd' rn' rd' t ≤ tokF bn bd rn rd (t + 1) + tokF bn' bd' rn' rd' (t + 1)
    unfold tokF; omega
  · have e1 := tok_bd (bn := bn) (rn := rn) b1 r1 (1 + rd' * rd - 1)
    have e2 := tok_bd (bn := bn') (rn := rn') b1' r1' (1 + rd' * rd - 1)
    have e3 : rn * (1 + rd' * rd - 1 - 1) ≤ 1000 * 100 := Nat.mul_le_mul r3 (by omega)
    have e4 : rn' * (1 + rd' * rd - 1 - 1) ≤ 1000 * 100 := Nat.mul_le_mul r3' (by omega)
    show tokF bn bd rn rd (1 + rd' * rd - 1) + tokF bn' bd' rn' rd' (1 + rd' * rd - 1) ≤ 1073741824
    unfold tokF; omega
  · have e3 : rd' * rn ≤ 10 * 1000 := Nat.mul_le_mul r2' r3
    have e4 : rd * rn' ≤ 10 * 1000 := Nat.mul_le_mul r2 r3'
    have e5 : (rd' : Int) * (rn : Int) = ((rd' * rn : Nat) : Int) := (Int.natCast_mul _ _).symm
    have e6 : (rd : Int) * (rn' : Int) = ((rd * rn' : Nat) : Int) := (Int.natCast_mul _ _).symm
    omega

theorem rsum_tok {z1 z2 : List Int} {p1 p2 : Nat} {i1 i2 : Int} {bn bd rn rd bn' bd' rn' rd' : Nat} (h1 : EForm z1 p1 i1 (tokE bn bd rn rd)) (h2 : EForm z2 p2 i2 (tokE bn' bd' rn' rd')) (b1 : 1 ≤ bd) (b2 : bn ≤ 1000) (r1 : 1 ≤ rd) (r2 : rd ≤ 10) (r3 : rn ≤ 1000) (b1' : 1 ≤ bd') (b2' : bn' ≤ 1000) (r1' : 1 ≤ rd') (r2' : rd' ≤ 10) (r3' : rn' ≤ 1000)
    (a1 : Option Addr) (n1 cap1 : Nat) (a2 : Option Addr) (n2 cap2 : Nat) (w : World) (k1 : RowZ w a1 n1 cap1 z1) (k2 : RowZ w a2 n2 cap2 z2) :
    Calls Try.prog 23 #[curV a1 n1 cap1 p1 i1, curV a2 n2 cap2 p2 i2] w (GivesOk (fun t => oadd (tokE bn bd rn rd t) (tokE bn' bd' rn' rd' t)) w) := by
  obtain ⟨L, hL, hl⟩ := lcm_form h1 h2 (Nat.le_trans (tok_form h1 b1 r1) r2) (Nat.le_trans (tok_form h2 b1' r1') r2') (by omega)
  refine (rsum_ok a1 n1 cap1 z1 p1 i1 h1.good a2 n2 cap2 z2 p2 i2 h2.good L hL hl w k1 k2).mono fun e w' h => ?_
  have he : eSum z1 p1 i1 z2 p2 i2 = fun t => oadd (tokE bn bd rn rd t) (tokE bn' bd' rn' rd' t) := funext fun t => by unfold eSum; rw [h1.val, h2.val]
  exact (h.to he).ok (sum_tok_can b1 b2 r1 r2 r3 b1' b2' r1' r2' r3')

/-- What Add gives for small fractions that are not negative. -/
theorem add_small {an ad cn cd : Nat} (h1 : okB an ad = true) (h2 : okB cn cd = true) (m1 : an ≤ 10000) (m2 : ad ≤ 1000) (m3 : cn ≤ 10000) (m4 : cd ≤ 1000) :
    ∃ sn sd : Nat, addF an ad cn cd = ((sn : Int), (sd : Int), 0) ∧ okB sn sd = true ∧ sn * (ad * cd) = (an * cd + cn * ad) * sd ∧ 1 ≤ sd ∧ sd ≤ ad * cd ∧ sn ≤ an * cd + cn * ad := by
  have k1 := (okB_iff _ _).1 h1
  have k2 := (okB_iff _ _).1 h2
  have o1 := (okF_iff _ _).1 k1.1
  have o2 := (okF_iff _ _).1 k2.1
  obtain ⟨N, hN⟩ : ∃ N : Nat, an * cd + cn * ad = N := ⟨_, rfl⟩
  obtain ⟨D, hD⟩ : ∃ D : Nat, ad * cd = D := ⟨_, rfl⟩
  have hNb : N ≤ 20000000 := by
    have e1 : an * cd ≤ 10000 * 1000 := Nat.mul_le_mul m1 m4
    have e2 : cn * ad ≤ 10000 * 1000 := Nat.mul_le_mul m3 m2
    omega
  have hDb : 1 ≤ D ∧ D ≤ 1000000 := by
    have e1 : ad * cd ≤ 1000 * 1000 := Nat.mul_le_mul m2 m4
    have e2 : 1 ≤ ad * cd := Nat.mul_pos (by omega) (by omega)
    omega
  obtain ⟨sn, sd, he, hok, hx, hneg, _, hle, hde⟩ := newF_small N D (by omega) (by omega) (by omega)
  have h0 : 0 ≤ sn := by
    rcases Int.lt_or_le sn 0 with h | h
    · have := hneg.1 h; omega
    · exact h
  have o3 := (okF_iff _ _).1 hok
  obtain ⟨S, rfl⟩ := Int.eq_ofNat_of_zero_le h0
  obtain ⟨T, rfl⟩ := Int.eq_ofNat_of_zero_le (show 0 ≤ sd by omega)
  refine ⟨S, T, ?_, (okB_iff _ _).2 ⟨hok, h0⟩, ?_, by omega, by rw [hD]; omega, by rw [hN]; omega⟩
  · unfold addF
    rw [if_pos (by rw [k1.1, k2.1]; rfl), ← he]
    congr 1
    · rw [← hN]; simp
    · rw [← hD]; simp
  · rw [hD, hN]
    have : ((S * D : Nat) : Int) = ((N * T : Nat) : Int) := by rw [Int.natCast_mul, Int.natCast_mul]; exact hx
    exact Int.ofNat.inj this

end Go.Proofs.Ytombgfpheiopgaa
