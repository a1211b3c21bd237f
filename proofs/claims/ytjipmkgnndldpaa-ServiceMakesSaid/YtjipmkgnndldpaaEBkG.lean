/- Small buckets and staircases, and the examples of the chapter. By the verifier's side. -/
import Derived.Test.YtjipmkgnndldpaaEBkABkB
import Derived.Test.YtjipmkgnndldpaaER5D
import Derived.Test.YtjipmkgnndldpaaELong
import Derived.Test.YtjipmkgnndldpaaEBkMBkXSvM
import Derived.BigQuiet
import Derived.Test.YtjipmkgnndldpaaERefARefP
namespace Go.Proofs.Ytjipmkgnndldpaa
open Go.RowKit
set_option linter.unusedSimpArgs false
set_option linter.unusedVariables false

theorem GivesCE.ok {E : Nat → Option Int} {zs : List Int} {p inc c : Int} (hc : ECan E) (h : EIs E zs p inc c) {w w' : World} {e : Ending} (k : GivesCE zs p inc c w e w') : GivesOk E w e w' := by
  rcases h with ⟨rfl, q, rfl, hf⟩ | ⟨_, _, _, _, hn⟩
  · obtain ⟨a, n, cap, he, hb, hr, hx⟩ := k
    exact ⟨a, n, cap, zs, q, inc, he, hb, hr, hf, hx⟩
  · exact absurd hc hn
theorem token_ok {bn bd rn rd : Nat} (h1 : okB bn bd = true) (h2 : okB rn rd = true) (b0 : bn ≤ 536870912) (r0 : rn ≤ 4194304) (r2 : rd ≤ 120) (w : World) :
    Calls Try.prog 33 #[bucketV bn bd rn rd] w (GivesOk (tokE bn bd rn rd) w) := by
  obtain ⟨zs, p, inc, c, hE⟩ := eis_ex (tokE bn bd rn rd)
  have k1 := (okB_iff _ _).1 h1
  have k2 := (okB_iff _ _).1 h2
  rw [okF_iff] at k1 k2
  have hT : TokIs bn bd rn rd zs p inc c := .inl ⟨by rw [h1, h2]; rfl, by rw [Int.toNat_natCast, Int.toNat_natCast, Int.toNat_natCast, Int.toNat_natCast]; exact .inl ⟨r2, hE⟩⟩
  exact (token_ce hT w).mono fun _ _ k => k.ok (tok_can (by omega) (by omega) r2 b0 r0) hE
end Go.Proofs.Ytjipmkgnndldpaa
