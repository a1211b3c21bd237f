/- Contract of keep.Longer. By the verifier's side. -/
import Derived.Test.YtjipmkgnndldpaaFCurFCurG
import Derived.Test.YtjipmkgnndldpaaFCurMCurNOrdM
import Derived.Test.YtjipmkgnndldpaaFBaseApartPickKeepS
import Derived.Deep.AppendLies
import Derived.Deep.RegionHeld3
import Derived.StillTailTactics
import Derived.RegionTactic
import Derived.Deep.DeepCutAuto
namespace Go.Proofs.Ytjipmkgnndldpaa
open Go.RowKit
set_option linter.unusedSimpArgs false

theorem Cur3.grownN {w w' : World} {b : Nat} {x0 x1 x2 : Value} (h : Cur3 w b x0 x1 x2) {row : Option Nat} (hg : w.grownBy w' row) (hr : ¬ row = some b) : Cur3 w' b x0 x1 x2 := by
  have hb : w'.heap[b]? = w.heap[b]? := hg.block b h.lt (fun e => hr e.symm)
  exact ⟨(World.cell?_of_block (w := w) (a := ⟨b, 0, none⟩) hb).trans h.c0, (World.cell?_of_block (w := w) (a := ⟨b, 1, none⟩) hb).trans h.c1, (World.cell?_of_block (w := w) (a := ⟨b, 2, none⟩) hb).trans h.c2,
    (World.frozen?_of_block (w := w) (a := ⟨b, 0, none⟩) hb).trans h.f0, (World.frozen?_of_block (w := w) (a := ⟨b, 1, none⟩) hb).trans h.f1, (World.frozen?_of_block (w := w) (a := ⟨b, 2, none⟩) hb).trans h.f2⟩
theorem hatOf {g r H m c : Nat} (h : (Value.slice (some ⟨r, 0, none⟩) m c).ownBlock = some g ∨ g = H) : g = r ∨ g = H := h.imp (fun e => (Option.some.inj e).symm) id
theorem Cur3.grownS {w w' : World} {b r m c : Nat} {x0 x1 x2 : Value} (h : Cur3 w b x0 x1 x2) (hg : w.grownBy w' (Value.slice (some ⟨r, 0, none⟩) m c).ownBlock) (hr : ¬ r = b) : Cur3 w' b x0 x1 x2 :=
  h.grownN hg (fun e => hr (Option.some.inj e))
theorem owns_ne {w : World} {base g cap k : Nat} {xs : List Value} (h : w.ownsRow base 3 1 (.slice (some ⟨g, 0, none⟩) k cap) k xs) {p : Addr} (hp : ¬ g = p.block) (x : Value) : (w.setCell p x).ownsRow base 3 1 (.slice (some ⟨g, 0, none⟩) k cap) k xs := by
  obtain ⟨hl, hr⟩ := h
  refine ⟨hl, ?_⟩
  rcases hr with h0 | ⟨g', cap', cur, hv, hbase, hg, h1, h2, h3, h4⟩
  · exact .inl h0
  · cases hv
    exact .inr ⟨g, cap, cur, rfl, hbase, (Below.heap_setCell _ _ _ _ hp).trans hg, h1, h2, h3, h4⟩
theorem RowZ.drew {w : World} {a : Option Addr} {n cap : Nat} {zs : List Int} (h : RowZ w a n cap zs) : RowZ w.drew a n cap zs := ⟨h.len, h.le, h.sm, h.cm, h.cell, h.bd⟩

end Go.Proofs.Ytjipmkgnndldpaa
