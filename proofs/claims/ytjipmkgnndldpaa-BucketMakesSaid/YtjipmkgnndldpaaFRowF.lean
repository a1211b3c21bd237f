/- A list in a block; what a store leaves of closures. By the verifier's side. -/
import Derived.Test.YtjipmkgnndldpaaFPwFPwG
import Derived.Test.YtjipmkgnndldpaaFPwSPwU
import Derived.Test.YtjipmkgnndldpaaFBaseApartPickKeepS
namespace Go.Proofs.Ytjipmkgnndldpaa
open Go.RowKit
set_option linter.unusedSimpArgs false
set_option linter.unusedVariables false

/-! ## A list in a block -/

theorem ClosP.other {w : World} {B : Nat} {a : Option Addr} {n cap : Nat} {zs : List Int} {p : Nat} {inc : Int} (h : ClosP w B a n cap zs p inc) {b : Nat} (hf : Far B a n b) (i : Nat) (v : Value) : ClosP (w.setCell ⟨b, i, none⟩ v) B a n cap zs p inc := by
  have hb : ∀ q o, ¬ q = b → (w.setCell ⟨b, i, none⟩ v).cell? ⟨q, o, none⟩ = w.cell? ⟨q, o, none⟩ := fun q o hq => World.cell?_of_block (w := w) (a := ⟨q, o, none⟩) (Below.heap_setCell _ _ _ _ hq)
  exact ⟨(hb _ _ hf.h1).trans h.f0, (hb _ _ hf.h1).trans h.f1, (hb _ _ hf.h1).trans h.f2, (hb _ _ hf.h2).trans h.num, h.row.store (fun x hx hn => hf.h3 x hx hn) _ _, h.good⟩

theorem GivesBad.alloc {c : Int} {w v : World} {e : Ending} (h : GivesBad c w e v) (o : Obj) : GivesBad c w e (v.alloc o) := ⟨h.1, h.2.alloc h.2.size o⟩

/-! ## One difference -/


end Go.Proofs.Ytjipmkgnndldpaa
