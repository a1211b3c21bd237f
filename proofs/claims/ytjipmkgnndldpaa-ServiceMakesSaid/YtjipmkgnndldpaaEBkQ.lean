/- What the walks of BucketAdds and BucketCovers are told: comparisons, sums and minima of small buckets' curves. By the verifier's side. -/
import Derived.Test.YtjipmkgnndldpaaEBkSBkH
import Derived.Test.YtjipmkgnndldpaaEOrdAS
import Derived.Test.YtjipmkgnndldpaaECloF
namespace Go.Proofs.Ytjipmkgnndldpaa
open Go.RowKit
set_option linter.unusedSimpArgs false
set_option linter.unusedVariables false

theorem ratMost_yes (a1 : Option Addr) (n1 cap1 : Nat) (z1 : List Int) (p1 : Nat) (i1 : Int) (g1 : Good z1 p1 i1) (a2 : Option Addr) (n2 cap2 : Nat) (z2 : List Int) (p2 : Nat) (i2 : Int) (g2 : Good z2 p2 i2) (hb : ∀ t, ole (eC z1 p1 i1 t) (eC z2 p2 i2 t)) (w : World) (h1 : RowZ w a1 n1 cap1 z1) (h2 : RowZ w a2 n2 cap2 z2) :
    Calls Try.prog 31 #[curV a1 n1 cap1 p1 i1, curV a2 n2 cap2 p2 i2] w (Says (.bool true) w) :=
  ratMost_ok a1 n1 cap1 z1 p1 i1 g1 a2 n2 cap2 z2 p2 i2 g2 _ false w h1 h2 (excP_of hb)

theorem form_per {zs : List Int} {p : Nat} {inc : Int} {E : Nat → Option Int} {F : Nat → Int} (h : EForm zs p inc E) (he : ∀ t, E t = some (F t)) {s P : Nat} {c : Int} (hp : Per F s P c) (hP : 1 ≤ P) : p ≤ P := by
  obtain ⟨g, hv, s', hs, hn⟩ := h
  have e : atC zs p inc = F := funext fun t => by
    have h1 := hv t
    rw [he t] at h1
    exact (eC_bd g h1).2.2
  rw [e] at hn
  exact hn.per_le hp hP
theorem lcm_form {z1 z2 : List Int} {p1 p2 : Nat} {i1 i2 : Int} {E1 E2 : Nat → Option Int} (h1 : EForm z1 p1 i1 E1) (h2 : EForm z2 p2 i2 E2) {P Q : Nat} (hp : p1 ≤ P) (hq : p2 ≤ Q) (hPQ : P * Q ≤ 120) : ∃ L, LcmN z1 p1 i1 z2 p2 i2 L ∧ L ≤ 120 := by
  obtain ⟨_, _, n1⟩ := norm_self h1
  obtain ⟨_, _, n2⟩ := norm_self h2
  refine ⟨_, ⟨_, _, _, _, _, _, n1, n2, rfl⟩, ?_⟩
  have e1 : p1 / Nat.gcd p1 p2 ≤ p1 := Nat.div_le_self _ _
  exact Nat.le_trans (Nat.mul_le_mul (Nat.le_trans e1 hp) hq) hPQ
theorem tok_form {zs : List Int} {p : Nat} {inc : Int} {bn bd rn rd : Nat} (h : EForm zs p inc (tokE bn bd rn rd)) (hbd : 1 ≤ bd) (hrd : 1 ≤ rd) : p ≤ rd := form_per h (fun _ => rfl) (tok_per hbd hrd) hrd

/-- Two curves, one at most the other. -/
theorem form_ole {z1 z2 : List Int} {p1 p2 : Nat} {i1 i2 : Int} {E1 E2 : Nat → Option Int} (h1 : EForm z1 p1 i1 E1) (h2 : EForm z2 p2 i2 E2) (h : ∀ t, ole (E1 t) (E2 t)) (t : Nat) : ole (eC z1 p1 i1 t) (eC z2 p2 i2 t) := by
  rw [h1.val, h2.val]; exact h t

end Go.Proofs.Ytjipmkgnndldpaa
