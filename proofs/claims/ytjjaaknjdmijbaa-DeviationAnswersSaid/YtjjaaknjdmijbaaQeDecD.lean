/- Prove and Of of the deconvolution. By the verifier's side. -/
import Derived.Test.YtjjaaknjdmijbaaQeDecADecBDecC
import Derived.Test.YtjjaaknjdmijbaaQeR5D
namespace Go.Proofs.Ytjjaaknjdmijbaa
open Go.RowKit
set_option linter.unusedSimpArgs false
set_option linter.unusedVariables false

/-- Block b holds a certificate. -/
structure G4 (w : World) (b : Nat) (x0 x1 x2 x3 : Value) : Prop where
  lo : Cur3 w b x0 x1 x2
  c3 : w.cell? ⟨b, 3, none⟩ = some x3
  f3 : w.frozen? ⟨b, 3, none⟩ = false
theorem G4.below {w w' : World} {b : Nat} {x0 x1 x2 x3 : Value} (h : G4 w b x0 x1 x2 x3) (hb : Below w.heap.size w w') : G4 w' b x0 x1 x2 x3 :=
  ⟨h.lo.below hb, (hb.cell (p := ⟨b, 3, none⟩) h.lo.lt).trans h.c3, (hb.frozen (p := ⟨b, 3, none⟩) h.lo.lt).trans h.f3⟩
theorem g4_new (w : World) (x0 x1 x2 x3 : Value) (t : TypeId) : G4 (w.alloc (.cells #[x0, x1, x2, x3] t)) w.heap.size x0 x1 x2 x3 :=
  ⟨⟨by go_simp, by go_simp, by go_simp, by go_simp, by go_simp, by go_simp⟩, by go_simp, by go_simp⟩
theorem RowF.rowZ {w : World} {lb N M : Nat} {F : Nat → Int} (h : RowF w lb N F) (hM : M ≤ N) (hN : N ≤ 100000) (hb : ∀ i, i < M → In64 (F i)) : RowZ w (some ⟨lb, 0, none⟩) M N (firsts F M) :=
  ⟨firsts_length _ _, hM, by omega, by omega, fun i hi => ⟨_, rfl, by
    have := (h.cell i (by omega)).1
    rw [firsts_getD _ _ _ hi, show ((⟨lb, 0, none⟩ : Addr).add i) = ⟨lb, i, none⟩ by unfold Addr.add; split <;> simp_all]
    exact this⟩, fun i hi => by rw [firsts_getD _ _ _ hi]; exact hb i hi⟩

/-- What stands ahead of the last statement. -/
structure PS (w : World) (P : PV) (y1 y2 : List Int) (pb rb la N : Nat) (F : Nat → Int) (a5 : Option Addr) (n5 cap5 : Nat) (p5 : Nat) (inc5 : Int) (zs5 : List Int) (u : World) : Prop where
  bx : Bx u rb a5 n5 cap5 p5 inc5 zs5
  pr : PdB u pb P
  kr : G4 u (w.heap.size + 2) (.slice none 0 0) (.int .i64 0) (.int .i64 0) (.slice none 0 0)
  i : PIn P y1 y2 u
  ra : RowF u la N F
  below : Below w.heap.size w u
section
variable {w u v : World} {P : PV} {y1 y2 : List Int} {pb rb la N : Nat} {F : Nat → Int} {a5 : Option Addr} {n5 cap5 p5 : Nat} {inc5 : Int} {zs5 : List Int}
theorem PS.call (h : PS w P y1 y2 pb rb la N F a5 n5 cap5 p5 inc5 zs5 u) (hb : Below u.heap.size u v) : PS w P y1 y2 pb rb la N F a5 n5 cap5 p5 inc5 zs5 v :=
  ⟨h.bx.under hb, h.pr.below hb, h.kr.below hb, h.i.under hb, h.ra.under hb, h.below.trans (hb.mono h.below.size)⟩
end

end Go.Proofs.Ytjjaaknjdmijbaa
