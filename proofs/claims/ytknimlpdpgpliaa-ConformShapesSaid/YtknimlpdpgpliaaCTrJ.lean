/- Order of package trace, of whatever list. By the verifier's side. -/
import Derived.Test.YtknimlpdpgpliaaCTrI
namespace Go.Proofs.Ytknimlpdpgpliaa
open Go.RowKit Go.Sort
set_option linter.unusedSimpArgs false
set_option linter.unusedVariables false

theorem GivesPk.row {l : List Pk} {w w' : World} {a : Option Addr} {n cap : Nat} (hl : l.length = n) (h1 : n ≤ cap) (h2 : cap ≤ 9223372036854775807) (hs : n ≤ 1000000) (hb : ∀ q ∈ l, Pk64 q) (h : n = 0 ∨ ∃ g, a = some ⟨g, 0, none⟩ ∧ w.heap.size ≤ g ∧ PkO w' g 0 l) : PkR w' a n cap l :=
  ⟨hl, h1, hs, h2, h.imp (fun h => ⟨h, fun _ _ => trivial⟩) fun ⟨g, ha, _, ho⟩ => ⟨g, 0, ha, ho.cells⟩, hb⟩

theorem insertion0 (A : Option Addr) (cap : Nat) (c : Value) (w : World) : Calls Try.prog 165 #[.slice A 0 cap, .int .i64 0, .int .i64 0, c] w fun e w' => e = .returned (.tuple #[]) ∧ w' = w := by
  go_enter Try.func165, Try.ntmps165
  go_wp2_with fail
  refine wp_loop_rounds 1 ?_
  rw [rounds_succ]
  go_wp2_with fail
  go_end0
  exact ⟨rfl, rfl⟩
theorem stable0 (A : Option Addr) (cap : Nat) (c : Value) (w : World) : Calls Try.prog 147 #[.slice A 0 cap, .int .i64 0, c] w fun e w' => e = .returned (.tuple #[]) ∧ w' = w := by
  go_enter Try.func147, Try.ntmps147
  go_wp2_with fail
  refine wp_loop_rounds 1 ?_
  rw [rounds_succ]
  go_wp2_with fail
  refine (insertion0 A cap c _).mono ?_
  rintro e w1 ⟨rfl, rfl⟩
  go_wp2_with fail
  refine wp_loop_rounds 1 ?_
  rw [rounds_succ]
  go_wp2_with fail
  go_end0
  exact ⟨rfl, rfl⟩
theorem sortStable0 (A : Option Addr) (cap : Nat) (c : Value) (w : World) : Calls Try.prog 90 #[.slice A 0 cap, c] w fun e w' => e = .returned (.tuple #[]) ∧ w' = w := by
  go_enter Try.func90, Try.ntmps90
  go_wp2_with fail
  refine (stable0 A cap c _).mono ?_
  rintro e w1 ⟨rfl, rfl⟩
  go_wp2_with fail
  go_end0
  exact ⟨rfl, rfl⟩

set_option maxHeartbeats 800000 in
/-- Order, of whatever list. -/
theorem order13 (a : Option Addr) (n cap : Nat) (l : List Pk) (hn : n ≤ 1000) (w : World) (h : PkR w a n cap l) :
    Calls Try.prog 38 #[.slice a n cap] w (GivesPk (isort l) w) := by
  have H := Lib.hid h
  clear h
  go_enter Try.func38, Try.ntmps38
  go_wp2_with fail
  refine (clone13 a n cap l _ H.out).mono ?_
  rintro e w1 ⟨a1, n1, cap1, rfl, hb, hl, hc1, hc2, hx, hg⟩
  obtain rfl : n1 = n := by rw [← hl, H.out.len]
  have HB := Lib.hid hb
  have HR := Lib.hid (And.intro hl (And.intro hc1 hc2))
  have HX := Lib.hid hx
  clear hb hl hc1 hc2 hx
  rcases hg with h0 | ⟨g, rfl, hgw, ho⟩
  · subst h0
    go_wp2_with fail
    refine (sortStable0 a1 cap1 _ _).mono ?_
    rintro e w2 ⟨rfl, rfl⟩
    go_wp2_with fail
    go_ret
    have : l = [] := List.length_eq_zero_iff.1 HR.out.1
    subst this
    exact ⟨a1, 0, cap1, rfl, HB.out, rfl, Nat.zero_le _, HR.out.2.2, HX.out, .inl rfl⟩
  · have HG := Lib.hid (And.intro hgw ho)
    clear hgw ho
    go_wp2_with fail
    refine (sortStable13 g 0 n1 cap1 l HR.out.1 hn _ HG.out.2).mono ?_
    rintro e w2 ⟨rfl, ha1, ho1⟩
    have HS1 := Lib.hid (And.intro ha1 ho1)
    clear ha1 ho1
    go_wp2_with fail
    go_ret
    exact ⟨_, n1, cap1, rfl, HB.out.trans (HS1.out.1.below HG.out.1 HB.out.size), by rw [isort_length]; exact HR.out.1, HR.out.2.1, HR.out.2.2, HX.out, .inr ⟨g, rfl, HG.out.1, HS1.out.2⟩⟩

end Go.Proofs.Ytknimlpdpgpliaa
