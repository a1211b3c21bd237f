/- Contracts of package pointwise: checked, settled, fromZero. By the verifier's side. -/
import Derived.Test.YtolgklpdmlohlaaPwC
namespace Go.Proofs.Ytolgklpdmlohlaa
open Go.RowKit
set_option linter.unusedSimpArgs false

theorem ClosG.congr {fid : FuncId} {caps : Array Value} {T : Nat} {f F : Nat → Int} {w : World} (h : ClosG fid caps T f w) (he : ∀ t, t < T → f t = F t) : ClosG fid caps T F w :=
  fun ti t v w' h1 h2 h3 h4 => h ti t v w' h1 h2 ((he t h2).trans h3) h4

theorem form_post {w w1 w2 : World} {b : Nat} {F : Nat → Int} (hB : Below w.heap.size w w1) (hb1 : w.heap.size ≤ b) (hb2 : b < w1.heap.size) (h2 : Below w1.heap.size w1 w2) {a : Option Addr} {n cap : Nat} {zs : List Int} {p : Nat} {inc : Int} (hr : RowZ w2 a n cap zs)
    (hx : ∀ x, a = some x → w1.heap.size ≤ x.block) (hf : Form zs p inc F) :
    GivesForm F w (.returned (.tuple #[curV a n cap p inc, .int .i64 0])) (((w2.setCell ⟨b, 0, none⟩ (.slice a n cap)).setCell ⟨b, 1, none⟩ (.int .i64 p)).setCell ⟨b, 2, none⟩ (.int .i64 inc)) := by
  have hne : ∀ x : Addr, a = some x → 1 ≤ n → x.block ≠ b := fun x h _ => by have := hx x h; omega
  exact ⟨below_set3 (hB.trans (h2.mono hB.size)) hb1 _ _ _, .inl ⟨a, n, cap, zs, p, inc, rfl, ((hr.store hne _ _).store hne _ _).store hne _ _, hf, fun x h => by have := hx x h; have := hB.size; omega⟩⟩

theorem none_post {w w1 w2 : World} {b : Nat} {F : Nat → Int} (hB : Below w.heap.size w w1) (hb1 : w.heap.size ≤ b) (h2 : Below w1.heap.size w1 w2) (hno : ¬ CanBe F) :
    GivesForm F w (.returned (.tuple #[curV none 0 0 0 0, .int .i64 3])) (((w2.setCell ⟨b, 0, none⟩ (.slice none 0 0)).setCell ⟨b, 1, none⟩ (.int .i64 0)).setCell ⟨b, 2, none⟩ (.int .i64 0)) :=
  ⟨below_set3 (hB.trans (h2.mono hB.size)) hb1 _ _ _, .inr ⟨rfl, hno⟩⟩

theorem pcurve_i (fid : FuncId) (caps : Array Value) (F : Nat → Int) (si : Int) (s : Nat) (hsi : si = s) (P : Nat) (c : Int) (hP1 : 1 ≤ P) (hP2 : P ≤ 120) (hs : s ≤ 1000) (hbd : ∀ t, t < s + 2 * P → 0 ≤ F t ∧ F t ≤ 4611686018427387904) (hper : Per F s P c) (w : World)
    (eg : ∀ (args : Array Value) (w : World), (callFunc fid args).run Try.prog w = .ok (.enter fid args) w) (hcl : ClosG fid caps (s + 2 * P) F w) :
    Calls Try.prog 55 #[.int .i64 si, .int .i64 P, .func (.func fid) #[] caps] w (GivesForm F w) := by
  subst hsi; exact pcurve_any fid caps F s P c hP1 hP2 hs hbd hper w eg hcl

end Go.Proofs.Ytolgklpdmlohlaa
