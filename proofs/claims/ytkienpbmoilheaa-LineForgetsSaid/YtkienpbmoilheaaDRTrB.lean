/- The document's Select. By the verifier's side. -/
import Derived.Test.YtkienpbmoilheaaDTrX
import Derived.Test.YtkienpbmoilheaaDTrTTrU
namespace Go.Proofs.Ytkienpbmoilheaa
open Go.RowKit
set_option linter.unusedSimpArgs false
set_option linter.unusedVariables false

theorem pkR_one (w : World) (q : Pk) (hq : Pk64 q) : PkR (w.alloc (.cells #[.int .i64 q.f, .int .i64 q.t, .int .i64 q.s] 103)) (some ⟨w.heap.size, 0, none⟩) 1 1 [q] :=
  pkR_new (l := [q]) (by simp) (fun x hx => by rw [List.mem_singleton.1 hx]; exact hq) (fun i x hx => by
    rcases i with _ | i
    · cases hx; exact ⟨rfl, rfl, rfl⟩
    · cases hx)
/-- A list of its own is handed back. -/
def GivesOwn (l : List Pk) (w : World) (e : Ending) (w' : World) : Prop :=
  ∃ a n cap, e = .returned (.slice a n cap) ∧ Below w.heap.size w w' ∧ PkR w' a n cap l ∧ ∀ x, a = some x → w.heap.size ≤ x.block
/-- A list that grows behind a world. -/
def OwnL (w : World) (v : Value) (l : List Pk) (wx : World) : Prop := wx.ownsRow w.heap.size 103 3 v l.length (pkV l) ∧ Below w.heap.size w wx
theorem OwnL.gives {w wx : World} {v : Value} {l : List Pk} (h : OwnL w v l wx) (hn : l.length ≤ 1000000) (hb : ∀ q ∈ l, Pk64 q) : GivesOwn l w (.returned v) wx := by
  obtain ⟨hl, a, c, hv, h1, h2, h3, h4⟩ := pkO_of_owns h.1
  subst hv
  refine ⟨a, _, c, rfl, h.2, ⟨hl, h1, hn, h2, ?_, hb⟩, h3⟩
  rcases h4 with ⟨_, h0⟩ | ⟨g', ha, _, ho⟩
  · exact .inl ⟨h0, fun _ _ => trivial⟩
  · exact .inr ⟨g', 0, ha, ho.cells⟩
theorem OwnL.push {w wx w' : World} {v v' : Value} {l r : List Pk} {m : Nat} (h : OwnL w v l wx) (hm : r.length = m) (ho : w'.ownsRow w.heap.size 103 3 v' (l.length + m) (pkV (l ++ r))) (hb : Below w.heap.size wx w') : OwnL w v' (l ++ r) w' :=
  ⟨by rw [List.length_append, hm]; exact ho, h.2.trans hb⟩
theorem OwnL.nil (w : World) : OwnL w (.slice none 0 0) [] w := ⟨World.ownsRow_nil _ _ _ _, Below.refl _ _⟩
theorem OwnL.alloc {w wx : World} {v : Value} {l : List Pk} (h : OwnL w v l wx) (o : Obj) : OwnL w v l (wx.alloc o) := ⟨h.1.alloc o, h.2.alloc h.2.size o⟩
theorem OwnL.drewN {w wx : World} {v : Value} {l : List Pk} (h : OwnL w v l wx) (m : Nat) : OwnL w v l (wx.drewN m) := ⟨h.1, h.2.drewN m⟩
end Go.Proofs.Ytkienpbmoilheaa
