/- Of the document's convolution: plus, start, finite, grows, slope, repeats. By the verifier's side. -/
import Derived.Test.YtkienpbmoilheaaGreatAR5D
import Derived.Test.YtkienpbmoilheaaGreatACurMToDecM
import Derived.BigRegion
namespace Go.Proofs.YtkienpbmoilheaaGreat
open Go.RowKit
set_option linter.unusedSimpArgs false
set_option linter.unusedVariables false

theorem infC7 (zs : List Int) : InfC zs ↔ zs.getD (zs.length - 1) 0 = infV := Iff.rfl
/-- Two curves in the call's first two boxes. -/
structure C2 (w : World) (a1 : Option Addr) (n1 cap1 : Nat) (z1 : List Int) (p1 : Nat) (i1 : Int) (a2 : Option Addr) (n2 cap2 : Nat) (z2 : List Int) (p2 : Nat) (i2 : Int) (u : World) : Prop where
  f : Bx u w.heap.size a1 n1 cap1 p1 i1 z1
  g : Bx u (w.heap.size + 1) a2 n2 cap2 p2 i2 z2
  below : Below w.heap.size w u
theorem C2.call {w u v : World} {a1 : Option Addr} {n1 cap1 : Nat} {z1 : List Int} {p1 : Nat} {i1 : Int} {a2 : Option Addr} {n2 cap2 : Nat} {z2 : List Int} {p2 : Nat} {i2 : Int} (k : C2 w a1 n1 cap1 z1 p1 i1 a2 n2 cap2 z2 p2 i2 u) (hb : Below u.heap.size u v) : C2 w a1 n1 cap1 z1 p1 i1 a2 n2 cap2 z2 p2 i2 v := ⟨k.f.under hb, k.g.under hb, k.below.trans (hb.mono k.below.size)⟩
theorem c2_new {w : World} {a1 : Option Addr} {n1 cap1 : Nat} {z1 : List Int} {p1 : Nat} {i1 : Int} {a2 : Option Addr} {n2 cap2 : Nat} {z2 : List Int} {p2 : Nat} {i2 : Int} (h1 : RowZ w a1 n1 cap1 z1) (h2 : RowZ w a2 n2 cap2 z2) {W : World} (hW : (w.alloc (.cells #[.slice a1 n1 cap1, .int .i64 p1, .int .i64 i1] 24)).alloc (.cells #[.slice a2 n2 cap2, .int .i64 p2, .int .i64 i2] 24) = W) : C2 w a1 n1 cap1 z1 p1 i1 a2 n2 cap2 z2 p2 i2 W := by
  subst hW
  have hB : Below w.heap.size w ((w.alloc (.cells #[.slice a1 n1 cap1, .int .i64 p1, .int .i64 i1] 24)).alloc (.cells #[.slice a2 n2 cap2, .int .i64 p2, .int .i64 i2] 24)) := ((Below.refl _ _).alloc (Nat.le_refl _) _).alloc (by simp) _
  exact ⟨⟨(Cur3.new w _ _ _ _).alloc _, h1.under hB⟩, ⟨Cur3.new2 w _ _ _ _ _, h2.under hB⟩, hB⟩
theorem addr07 (x : Addr) : x.add 0 = x := by unfold Addr.add; split <;> simp_all
end Go.Proofs.YtkienpbmoilheaaGreat
