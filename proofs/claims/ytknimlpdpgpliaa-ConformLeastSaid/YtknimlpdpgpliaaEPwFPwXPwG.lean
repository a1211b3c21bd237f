/- Contracts of package pointwise: paired. By the verifier's side. -/
import Derived.Test.YtknimlpdpgpliaaEPwCPwD
import Derived.Test.YtknimlpdpgpliaaEBaseApartPickKeepS
import Derived.Laws.EntriesVeiled
import Derived.Test.YtknimlpdpgpliaaEPwO
import Derived.Test.YtknimlpdpgpliaaECurS
import Derived.Test.YtknimlpdpgpliaaECurFCurG
namespace Go.Proofs.Ytknimlpdpgpliaa
open Go.RowKit
set_option linter.unusedSimpArgs false

section
variable {w : World} {fc : FuncId} {a1 a2 : Option Addr} {n1 cap1 p1 n2 cap2 p2 : Nat} {i1 i2 : Int} {z1 z2 : List Int} {u v : World}
end

/-- A closure over a curve, as cells: what it reads is apart from the block b. -/
structure Far (B : Nat) (a : Option Addr) (n : Nat) (b : Nat) : Prop where
  h1 : ¬ B = b
  h2 : ¬ B + 1 = b
  h3 : ∀ x, a = some x → 1 ≤ n → ¬ x.block = b

theorem ClosP.store {w : World} {B : Nat} {a : Option Addr} {n cap : Nat} {zs : List Int} {p : Nat} {inc : Int} (h : ClosP w B a n cap zs p inc) {b : Nat} (hf : Far B a n b) (v : Value) : ClosP (w.setCell ⟨b, 0, none⟩ v) B a n cap zs p inc := by
  have hb : ∀ q o, ¬ q = b → (w.setCell ⟨b, 0, none⟩ v).cell? ⟨q, o, none⟩ = w.cell? ⟨q, o, none⟩ := fun q o hq => World.cell?_of_block (w := w) (a := ⟨q, o, none⟩) (Below.heap_setCell _ _ _ _ hq)
  exact ⟨(hb _ _ hf.h1).trans h.f0, (hb _ _ hf.h1).trans h.f1, (hb _ _ hf.h1).trans h.f2, (hb _ _ hf.h2).trans h.num, h.row.store (fun x hx hn => hf.h3 x hx hn) _ _, h.good⟩

def GivesP (a : Option Addr) (n cap : Nat) (zs : List Int) (p : Nat) (inc : Int) (w : World) (e : Ending) (w' : World) : Prop :=
  ∃ B, e = .returned (.func (.func 152) #[] #[.pointer (some ⟨B + 1, 0, none⟩), .pointer (some ⟨B, 0, none⟩)]) ∧ Below w.heap.size w w' ∧ w.heap.size ≤ B ∧ B + 1 < w'.heap.size ∧ ClosP w' B a n cap zs p inc

set_option maxHeartbeats 800000 in
theorem pvalues_p (a : Option Addr) (n cap : Nat) (zs : List Int) (p : Nat) (inc : Int) (g : Good zs p inc) (w : World) (h : RowZ w a n cap zs) :
    Calls Try.prog 99 #[curV a n cap p inc] w (GivesP a n cap zs p inc w) := by
  have hmf : ∀ (fn : Fn) (first cap : Array Value) (w : World), (Instr.makeFunc fn first cap).run Try.prog w = .ok (.func fn first cap) w := fun _ _ _ _ => rfl
  have hB : Below w.heap.size w ((w.alloc (.cells #[.slice a n cap, .int .i64 p, .int .i64 inc] 26)).alloc (.cells #[.int .i64 n] 3)) := ((Below.refl _ _).alloc (Nat.le_refl _) _).alloc (by simp) _
  have HC : Hid (ClosP ((w.alloc (.cells #[.slice a n cap, .int .i64 p, .int .i64 inc] 26)).alloc (.cells #[.int .i64 n] 3)) w.heap.size a n cap zs p inc) := Lib.hid (by
    obtain ⟨c0, c1, c2, _, _, _⟩ := (Cur3.new w (.slice a n cap) (.int .i64 p) (.int .i64 inc) 26).alloc (.cells #[.int .i64 n] 3)
    exact ⟨c0, c1, c2, by go_simp, h.under hB, g⟩)
  have HB := Lib.hid hB
  clear h g hB
  go_enter Try.func99, Try.ntmps99
  go_wp2_with fail
  go_ret
  exact ⟨w.heap.size, rfl, HB.out, Nat.le_refl _, by simp, HC.out⟩

end Go.Proofs.Ytknimlpdpgpliaa

namespace Go.Proofs.Ytknimlpdpgpliaa

end Go.Proofs.Ytknimlpdpgpliaa

namespace Go.Proofs.Ytknimlpdpgpliaa

section
variable {zs ys : List Int} {p q most : Nat} {inc jnc : Int}

end

end Go.Proofs.Ytknimlpdpgpliaa

namespace Go.Proofs.Ytknimlpdpgpliaa

section
variable {zs ys : List Int} {p q most : Nat} {inc jnc k : Int}

end

end Go.Proofs.Ytknimlpdpgpliaa

namespace Go.Proofs.Ytknimlpdpgpliaa

/-- At most, where none is the greatest. -/
def ole (a b : Option Int) : Prop := ∀ y, b = some y → ∃ x, a = some x ∧ x ≤ y

theorem ole_refl (a : Option Int) : ole a a := fun y h => ⟨y, h, Int.le_refl _⟩
theorem ole_none (a : Option Int) : ole a none := fun y h => by cases h
theorem ole_some {x y : Int} (h : x ≤ y) : ole (some x) (some y) := fun z hz => by cases hz; exact ⟨x, rfl, h⟩
end Go.Proofs.Ytknimlpdpgpliaa

namespace Go.Proofs.Ytknimlpdpgpliaa

section
variable {zs : List Int} {p : Nat} {inc : Int}

end

end Go.Proofs.Ytknimlpdpgpliaa

namespace Go.Proofs.Ytknimlpdpgpliaa

/-! ## The same from some tick on: minima and maxima -/

/-! ## What a reduction needs -/

/-! ## Greater curves have greater results -/

end Go.Proofs.Ytknimlpdpgpliaa

namespace Go.Proofs.Ytknimlpdpgpliaa

/-! ## Sums, minima and maxima distribute -/

theorem oadd_comm (a b : Option Int) : oadd a b = oadd b a := by
  cases a <;> cases b <;> try rfl
  rename_i x y
  show some (x + y) = some (y + x)
  congr 1; omega
theorem oadd_assoc (a b c : Option Int) : oadd (oadd a b) c = oadd a (oadd b c) := by
  cases a <;> cases b <;> cases c <;> try rfl
  rename_i x y z
  show some (x + y + z) = some (x + (y + z))
  congr 1; omega

end Go.Proofs.Ytknimlpdpgpliaa

namespace Go.Proofs.Ytknimlpdpgpliaa
open Go.RowKit
set_option linter.unusedSimpArgs false

/-! ## The examples -/

/-! ## Boxes -/

theorem EForm.good {zs : List Int} {p : Nat} {inc : Int} {E : Nat → Option Int} (h : EForm zs p inc E) : Good zs p inc := h.1
theorem EForm.at {zs : List Int} {p : Nat} {inc : Int} {E : Nat → Option Int} (h : EForm zs p inc E) {t : Nat} {x : Int} (hx : E t = some x) : atC zs p inc t = x := by
  rw [← enc_eC, h.2.1, hx]; rfl

end Go.Proofs.Ytknimlpdpgpliaa
