/- Clone and Order of package trace, of whatever list. By the verifier's side. -/
import Derived.Test.YtknimlpdpgpliaaTTrGTrH
namespace Go.Proofs.Ytknimlpdpgpliaa
open Go.RowKit Go.Sort
set_option linter.unusedSimpArgs false
set_option linter.unusedVariables false

/-- The cells of a list. -/
def pkV : List Pk → List Value
  | [] => []
  | q :: r => .int .i64 q.f :: .int .i64 q.t :: .int .i64 q.s :: pkV r
theorem pkV_length : ∀ l : List Pk, (pkV l).length = l.length * 3
  | [] => rfl
  | q :: r => by show (pkV r).length + 1 + 1 + 1 = (r.length + 1) * 3; rw [pkV_length r]; omega
theorem pkV_append : ∀ (a b : List Pk), pkV (a ++ b) = pkV a ++ pkV b
  | [], b => rfl
  | q :: r, b => by show _ :: _ :: _ :: pkV (r ++ b) = _; rw [pkV_append r b]; rfl
theorem pkV_one : ∀ (l : List Pk) (u : Value), u ∈ pkV l → u.oneCell' = true
  | [], u, h => by cases h
  | q :: r, u, h => by
    rcases List.mem_cons.1 h with e | h
    · rw [e]; rfl
    · rcases List.mem_cons.1 h with e | h
      · rw [e]; rfl
      · rcases List.mem_cons.1 h with e | h
        · rw [e]; rfl
        · exact pkV_one r u h
theorem pkV_at : ∀ (l : List Pk) (i : Nat) (q : Pk), l[i]? = some q → (pkV l)[i * 3]? = some (.int .i64 q.f) ∧ (pkV l)[i * 3 + 1]? = some (.int .i64 q.t) ∧ (pkV l)[i * 3 + 2]? = some (.int .i64 q.s)
  | [], i, q, h => by cases h
  | x :: r, 0, q, h => by cases h; exact ⟨rfl, rfl, rfl⟩
  | x :: r, i + 1, q, h => by
    have := pkV_at r i q h
    rw [show (i + 1) * 3 = i * 3 + 3 by omega]
    exact this
theorem pkV_of : ∀ (l : List Pk) (j : Nat) (u : Value), (pkV l)[j]? = some u → ∃ i q, l[i]? = some q ∧ ((j = i * 3 ∧ u = .int .i64 q.f) ∨ (j = i * 3 + 1 ∧ u = .int .i64 q.t) ∨ (j = i * 3 + 2 ∧ u = .int .i64 q.s))
  | [], j, u, h => by cases h
  | q :: r, 0, u, h => by cases h; exact ⟨0, q, rfl, .inl ⟨rfl, rfl⟩⟩
  | q :: r, 1, u, h => by cases h; exact ⟨0, q, rfl, .inr (.inl ⟨rfl, rfl⟩)⟩
  | q :: r, 2, u, h => by cases h; exact ⟨0, q, rfl, .inr (.inr ⟨rfl, rfl⟩)⟩
  | x :: r, j + 3, u, h => by
    obtain ⟨i, q, hi, hu⟩ := pkV_of r j u h
    refine ⟨i + 1, q, hi, ?_⟩
    rcases hu with ⟨rfl, hu⟩ | ⟨rfl, hu⟩ | ⟨rfl, hu⟩
    · exact .inl ⟨by omega, hu⟩
    · exact .inr (.inl ⟨by omega, hu⟩)
    · exact .inr (.inr ⟨by omega, hu⟩)
theorem PkC.news {w : World} {B off : Nat} {l : List Pk} (h : PkC w B off l) : ∀ j u, (pkV l)[j]? = some u → w.cell? ((⟨B, off, none⟩ : Addr).add j) = some u := fun j u hj => by
  obtain ⟨i, q, hi, hu⟩ := pkV_of l j u hj
  obtain ⟨h1, h2, h3⟩ := h i q hi
  have ea : ((⟨B, off, none⟩ : Addr).add j) = ⟨B, off + j, none⟩ := by unfold Addr.add; split <;> simp_all
  rw [ea]
  rcases hu with ⟨rfl, rfl⟩ | ⟨rfl, rfl⟩ | ⟨rfl, rfl⟩
  · exact h1
  · exact h2
  · exact h3
theorem info_pk : (Try.prog.info? 76).map (fun i => (i.zero, i.size, i.bytes)) = some (some (.agg #[.int .i64 0, .int .i64 0, .int .i64 0]), 3, 24) := by kernel_rfl
/-- A row of the call's own is a block of its own. -/
theorem pkO_of_owns {w : World} {base n : Nat} {v : Value} {l : List Pk} (h : w.ownsRow base 76 3 v n (pkV l)) :
    l.length = n ∧ ∃ a cap, v = .slice a n cap ∧ n ≤ cap ∧ cap ≤ 9223372036854775807 ∧ (∀ x, a = some x → base ≤ x.block) ∧ (a = none ∧ n = 0 ∨ ∃ g, a = some ⟨g, 0, none⟩ ∧ base ≤ g ∧ PkO w g 0 l) := by
  obtain ⟨hl, hr⟩ := h
  rw [pkV_length] at hl
  have hn : l.length = n := by omega
  refine ⟨hn, ?_⟩
  rcases hr with ⟨rfl, h0⟩ | ⟨g, cap, cur, rfl, hbase, hg, hnc, hcm, hsz, htake⟩
  · subst h0
    exact ⟨none, 0, rfl, Nat.le_refl _, by omega, (fun x hx => by cases hx), .inl ⟨rfl, rfl⟩⟩
  · refine ⟨some ⟨g, 0, none⟩, cap, rfl, hnc, by unfold maxLen at hcm; omega, fun x hx => by cases hx; exact hbase, .inr ⟨g, rfl, hbase, cur, _, hg, fun i q hq => ?_⟩⟩
    have hi := (List.getElem?_eq_some_iff.1 hq).1
    obtain ⟨h1, h2, h3⟩ := pkV_at l i q hq
    rw [← htake, List.getElem?_take, if_pos (by omega)] at h1 h2 h3
    rw [Nat.zero_add]
    exact ⟨by simpa using h1, by simpa using h2, by simpa using h3⟩

/-- A list of its own is handed back. -/
def GivesPk (l : List Pk) (w : World) (e : Ending) (w' : World) : Prop :=
  ∃ a n cap, e = .returned (.slice a n cap) ∧ Below w.heap.size w w' ∧ l.length = n ∧ n ≤ cap ∧ cap ≤ 9223372036854775807 ∧ (∀ x, a = some x → w.heap.size ≤ x.block) ∧ (n = 0 ∨ ∃ g, a = some ⟨g, 0, none⟩ ∧ w.heap.size ≤ g ∧ PkO w' g 0 l)

set_option maxRecDepth 100000 in
set_option maxHeartbeats 1600000 in
theorem clone13 (a : Option Addr) (n cap : Nat) (l : List Pk) (w : World) (h : PkR w a n cap l) :
    Calls Try.prog 89 #[.slice a n cap] w (GivesPk l w) := by
  obtain ⟨i0, hi, hz0, hz1, hz2⟩ := info_parts info_pk
  have hsm := h.sm
  have H := Lib.hid h
  clear h
  cases a with
  | none =>
    obtain rfl : n = 0 := by
      rcases H.out.place with ⟨h0, _⟩ | ⟨B, off, ha, _⟩
      · exact h0
      · cases ha
    have hnil := fun (w : World) => Lib.run_eql_slice_nil (P := Try.prog) w 45 76 none 0 cap 0 0 Try.underlying45
    go_enter Try.func89, Try.ntmps89
    go_wp2_with fail
    go_ret
    exact ⟨none, 0, 0, rfl, Below.refl _ _, H.out.len, Nat.le_refl _, by omega, (fun x hx => by cases hx), .inl rfl⟩
  | some x =>
    have hnil := fun (w : World) => Lib.run_eql_slice_nil (P := Try.prog) w 45 76 (some x) n cap 0 0 Try.underlying45
    have hnews : ∀ (w' : World), Below w.heap.size w w' → ∀ j u, (pkV l)[j]? = some u → w'.cell? (x.add j) = some u := fun w' hb j u hj => by
      rcases (H.out.under hb).place with ⟨h0, _⟩ | ⟨B, off, ha, hc⟩
      · have : l = [] := List.length_eq_zero_iff.1 (by rw [H.out.len]; exact h0)
        subst this; cases hj
      · cases ha; exact hc.news j u hj
    have HN := Lib.hid hnews
    clear hnews
    go_enter Try.func89, Try.ntmps89
    go_wp2_with (at_builtin; refine wpList_append_own _ rfl _ _ 45 rfl w.heap.size 76 i0 (.agg #[.int .i64 0, .int .i64 0, .int .i64 0]) 3 24 Try.underlying45 hi hz0 hz1 hz2 rfl (by decide) _ _ _ rfl (World.ownsRow_made w #[] 0 (Nat.le_refl _) (Nat.zero_le _) rfl) x n cap (pkV l) rfl ?cl ?c1 ?c2 ?c3 ?c4 ?c5 ?_)
    case cl => rw [pkV_length, H.out.len]
    case c1 => exact HN.out _ ((Below.refl _ _).alloc (Nat.le_refl _) _)
    case c2 => exact pkV_one l
    case c3 => unfold maxLen; omega
    case c4 => omega
    case c5 => simp
    · intro v' w1 hown' hgrow _
      have HO := Lib.hid hown'
      have HG := Lib.hid hgrow
      clear hown' hgrow
      obtain ⟨hl, a', c', hv, h1, h2, h3, h4⟩ := pkO_of_owns (l := l) (by have := HO.out; simpa using this)
      subst hv
      have HR := Lib.hid (And.intro (And.intro hl h1) (And.intro h2 (And.intro h3 h4)))
      clear hl h1 h2 h3 h4
      go_wp2_with fail
      go_ret
      refine ⟨a', _, c', rfl, ((Below.refl _ _).alloc (Nat.le_refl _) _).grown HG.out (by simp) (fun j hj => by cases hj; exact Nat.le_refl _), HR.out.1.1, HR.out.1.2, HR.out.2.1, HR.out.2.2.1, ?_⟩
      rcases HR.out.2.2.2 with ⟨_, h0⟩ | hg
      · exact .inl h0
      · exact .inr hg

end Go.Proofs.Ytknimlpdpgpliaa

namespace Go.Proofs.Ytknimlpdpgpliaa
open Go.RowKit Go.Sort
set_option linter.unusedSimpArgs false
set_option linter.unusedVariables false

theorem GivesPk.row {l : List Pk} {w w' : World} {a : Option Addr} {n cap : Nat} (hl : l.length = n) (h1 : n ≤ cap) (h2 : cap ≤ 9223372036854775807) (hs : n ≤ 1000000) (hb : ∀ q ∈ l, Pk64 q) (h : n = 0 ∨ ∃ g, a = some ⟨g, 0, none⟩ ∧ w.heap.size ≤ g ∧ PkO w' g 0 l) : PkR w' a n cap l :=
  ⟨hl, h1, hs, h2, h.imp (fun h => ⟨h, fun _ _ => trivial⟩) fun ⟨g, ha, _, ho⟩ => ⟨g, 0, ha, ho.cells⟩, hb⟩

theorem insertion0 (A : Option Addr) (cap : Nat) (c : Value) (w : World) : Calls Try.prog 165 #[.slice A 0 cap, .int .i64 0, .int .i64 0, c] w fun e w' => e = .returned (.tuple #[]) ∧ w' = w := by
  go_enter Try.func165, Try.ntmps165
  go_wp2_with fail
  refine wp_loop_rounds 1 ?_
  rw [rounds_succ]
  go_wp2_with fail
  go_end0
  exact ⟨rfl, rfl⟩
theorem stable0 (A : Option Addr) (cap : Nat) (c : Value) (w : World) : Calls Try.prog 147 #[.slice A 0 cap, .int .i64 0, c] w fun e w' => e = .returned (.tuple #[]) ∧ w' = w := by
  go_enter Try.func147, Try.ntmps147
  go_wp2_with fail
  refine wp_loop_rounds 1 ?_
  rw [rounds_succ]
  go_wp2_with fail
  refine (insertion0 A cap c _).mono ?_
  rintro e w1 ⟨rfl, rfl⟩
  go_wp2_with fail
  refine wp_loop_rounds 1 ?_
  rw [rounds_succ]
  go_wp2_with fail
  go_end0
  exact ⟨rfl, rfl⟩
theorem sortStable0 (A : Option Addr) (cap : Nat) (c : Value) (w : World) : Calls Try.prog 90 #[.slice A 0 cap, c] w fun e w' => e = .returned (.tuple #[]) ∧ w' = w := by
  go_enter Try.func90, Try.ntmps90
  go_wp2_with fail
  refine (stable0 A cap c _).mono ?_
  rintro e w1 ⟨rfl, rfl⟩
  go_wp2_with fail
  go_end0
  exact ⟨rfl, rfl⟩

set_option maxHeartbeats 800000 in
/-- Order, of whatever list. -/
theorem order13 (a : Option Addr) (n cap : Nat) (l : List Pk) (hn : n ≤ 1000) (w : World) (h : PkR w a n cap l) :
    Calls Try.prog 38 #[.slice a n cap] w (GivesPk (isort l) w) := by
  have H := Lib.hid h
  clear h
  go_enter Try.func38, Try.ntmps38
  go_wp2_with fail
  refine (clone13 a n cap l _ H.out).mono ?_
  rintro e w1 ⟨a1, n1, cap1, rfl, hb, hl, hc1, hc2, hx, hg⟩
  obtain rfl : n1 = n := by rw [← hl, H.out.len]
  have HB := Lib.hid hb
  have HR := Lib.hid (And.intro hl (And.intro hc1 hc2))
  have HX := Lib.hid hx
  clear hb hl hc1 hc2 hx
  rcases hg with h0 | ⟨g, rfl, hgw, ho⟩
  · subst h0
    go_wp2_with fail
    refine (sortStable0 a1 cap1 _ _).mono ?_
    rintro e w2 ⟨rfl, rfl⟩
    go_wp2_with fail
    go_ret
    have : l = [] := List.length_eq_zero_iff.1 HR.out.1
    subst this
    exact ⟨a1, 0, cap1, rfl, HB.out, rfl, Nat.zero_le _, HR.out.2.2, HX.out, .inl rfl⟩
  · have HG := Lib.hid (And.intro hgw ho)
    clear hgw ho
    go_wp2_with fail
    refine (sortStable13 g 0 n1 cap1 l HR.out.1 hn _ HG.out.2).mono ?_
    rintro e w2 ⟨rfl, ha1, ho1⟩
    have HS1 := Lib.hid (And.intro ha1 ho1)
    clear ha1 ho1
    go_wp2_with fail
    go_ret
    exact ⟨_, n1, cap1, rfl, HB.out.trans (HS1.out.1.below HG.out.1 HB.out.size), by rw [isort_length]; exact HR.out.1, HR.out.2.1, HR.out.2.2, HX.out, .inr ⟨g, rfl, HG.out.1, HS1.out.2⟩⟩

end Go.Proofs.Ytknimlpdpgpliaa
