/- The document's Merge, where its Order does what it should. By the verifier's side. -/
import Derived.Test.YtknimlpdpgpliaaTRTrARTrB
import Derived.Test.YtknimlpdpgpliaaTTrC
namespace Go.Proofs.Ytknimlpdpgpliaa
open Go.RowKit
set_option linter.unusedSimpArgs false
set_option linter.unusedVariables false

/-- What is asked of the document's Order. -/
def OrderSays : Prop := ∀ (a : Option Addr) (n cap : Nat) (l : List Pk) (w : World), n ≤ 1000 → PkR w a n cap l → Calls Try.prog 39 #[.slice a n cap] w (GivesOwn (isort l) w)
set_option maxRecDepth 100000 in
set_option maxHeartbeats 1600000 in
theorem rmerge13 (hord : OrderSays) (a1 : Option Addr) (n1 c1 : Nat) (l1 : List Pk) (a2 : Option Addr) (n2 c2 : Nat) (l2 : List Pk) (w : World) (hr1 : PkR w a1 n1 c1 l1) (hr2 : PkR w a2 n2 c2 l2) :
    Calls Try.prog 51 #[.slice a1 n1 c1, .slice a2 n2 c2] w (GivesPkE (mcode l1 l2) (mergeL l1 l2) w) := by
  have HO := Lib.hid hord
  have H1 := Lib.hid hr1
  have H2 := Lib.hid hr2
  have hs1 := hr1.sm
  have hs2 := hr2.sm
  clear hr1 hr2 hord
  by_cases e1 : vcode l1 = 0
  case neg =>
    obtain ⟨x, hx⟩ : ∃ x, vcode l1 = x := ⟨_, rfl⟩
    have hm : mcode l1 l2 = x := by unfold mcode; rw [if_neg e1, hx]
    have hl : mergeL l1 l2 = [] := by unfold mergeL; rw [if_neg (by rw [hm, ← hx]; exact e1)]
    rw [hm, hl]
    rw [hx] at e1
    have HX := Lib.hid hx
    clear hx hm hl
    go_enter Try.func51, Try.ntmps51
    go_wp2_with fail
    refine (rvalidate_any a1 n1 c1 l1 x HX.out _ H1.out).mono ?_
    rintro e w1 ⟨rfl, hb1⟩
    have HB1 := Lib.hid hb1
    clear hb1
    go_wp2_with fail
    go_ret2
    exact ⟨none, 0, 0, rfl, HB1.out, pkR_nil _⟩
  by_cases e2 : vcode l2 = 0
  case neg =>
    obtain ⟨x, hx⟩ : ∃ x, vcode l2 = x := ⟨_, rfl⟩
    have hm : mcode l1 l2 = x := by unfold mcode; rw [if_pos e1, if_neg e2, hx]
    have hl : mergeL l1 l2 = [] := by unfold mergeL; rw [if_neg (by rw [hm, ← hx]; exact e2)]
    rw [hm, hl]
    rw [hx] at e2
    have HX := Lib.hid hx
    have E1 := Lib.hid e1
    clear hx hm hl e1
    go_enter Try.func51, Try.ntmps51
    go_wp2_with fail
    refine (rvalidate_any a1 n1 c1 l1 0 E1.out _ H1.out).mono ?_
    rintro e w1 ⟨rfl, hb1⟩
    have HB1 := Lib.hid hb1
    clear hb1
    go_wp2_with fail
    refine (rvalidate_any a2 n2 c2 l2 x HX.out _ (H2.out.under HB1.out)).mono ?_
    rintro e w2 ⟨rfl, hb2⟩
    have HB2 := Lib.hid (HB1.out.trans (hb2.mono HB1.out.size))
    clear hb2
    go_wp2_with fail
    go_ret2
    exact ⟨none, 0, 0, rfl, HB2.out, pkR_nil _⟩
  have hle1 := (vcode_ok e1).1
  have hle2 := (vcode_ok e2).1
  rw [H1.out.len] at hle1
  rw [H2.out.len] at hle2
  have E1 := Lib.hid e1
  have E2 := Lib.hid e2
  by_cases h60 : 60 < n1 + n2
  · have hm : mcode l1 l2 = 3 := by unfold mcode; rw [if_pos e1, if_pos e2, H1.out.len, H2.out.len, if_pos h60]
    have hl : mergeL l1 l2 = [] := by unfold mergeL; rw [if_neg (by rw [hm]; decide)]
    rw [hm, hl]
    have h6 : (60 : Int) < (n1 : Int) + (n2 : Int) := by omega
    clear hm hl e1 e2 h60
    go_enter Try.func51, Try.ntmps51
    go_wp2_with fail
    refine (rvalidate_any a1 n1 c1 l1 0 E1.out _ H1.out).mono ?_
    rintro e w1 ⟨rfl, hb1⟩
    have HB1 := Lib.hid hb1
    clear hb1
    go_wp2_with fail
    refine (rvalidate_any a2 n2 c2 l2 0 E2.out _ (H2.out.under HB1.out)).mono ?_
    rintro e w2 ⟨rfl, hb2⟩
    have HB2 := Lib.hid (HB1.out.trans (hb2.mono HB1.out.size))
    clear hb2
    go_wp2_with fail
    go_ret2
    exact ⟨none, 0, 0, rfl, HB2.out, pkR_nil _⟩
  · have hm : mcode l1 l2 = 0 := by unfold mcode; rw [if_pos e1, if_pos e2, H1.out.len, H2.out.len, if_neg h60]
    have hl : mergeL l1 l2 = isort (l1 ++ l2) := by unfold mergeL; rw [if_pos hm]
    rw [hm, hl]
    have h6 : ¬ (60 : Int) < (n1 : Int) + (n2 : Int) := by omega
    clear hm hl e1 e2 h60
    go_enter Try.func51, Try.ntmps51
    go_wp2_with fail
    refine (rvalidate_any a1 n1 c1 l1 0 E1.out _ H1.out).mono ?_
    rintro e w1 ⟨rfl, hb1⟩
    have HB1 := Lib.hid hb1
    clear hb1
    go_wp2_with fail
    refine (rvalidate_any a2 n2 c2 l2 0 E2.out _ (H2.out.under HB1.out)).mono ?_
    rintro e w2 ⟨rfl, hb2⟩
    have HB2 := Lib.hid (HB1.out.trans (hb2.mono HB1.out.size))
    clear hb2
    go_wp2_with (at_builtin; (refine wpList_append_pk rfl _ _ rfl w.heap.size (.slice none 0 0) 0 [] rfl (World.ownsRow_nil _ _ _ _) a1 n1 c1 l1 rfl (H1.out.under HB2.out) (by omega) HB2.out.size ?_))
    intro v3 w3 ho3 hb3
    try simp only [Nat.zero_add, List.nil_append] at ho3
    have HO3 := Lib.hid ho3
    have HB3 := Lib.hid (HB2.out.trans hb3)
    clear ho3 hb3
    go_wp2_with (at_builtin; (refine wpList_append_pk rfl _ _ rfl w.heap.size v3 n1 l1 rfl HO3.out a2 n2 c2 l2 rfl (H2.out.under HB3.out) (by omega) HB3.out.size ?_))
    intro v4 w4 ho4 hb4
    have HB4 := Lib.hid (HB3.out.trans hb4)
    obtain ⟨hl4, a4, c4, hv4, k1, k2, k3, k4⟩ := pkO_of_owns ho4
    subst hv4
    have R4 := Lib.hid (show PkR w4 a4 (n1 + n2) c4 (l1 ++ l2) from ⟨hl4, k1, by omega, k2, by
      rcases k4 with ⟨_, h0⟩ | ⟨g', ha, _, ho⟩
      · exact .inl ⟨h0, fun _ _ => trivial⟩
      · exact .inr ⟨g', 0, ha, ho.cells⟩, fun q hq => by
      rcases List.mem_append.1 hq with k | k
      · exact H1.out.bd q k
      · exact H2.out.bd q k⟩)
    clear ho4 hb4 hl4 k1 k2 k3 k4
    go_wp2_with fail
    refine (HO.out a4 (n1 + n2) c4 (l1 ++ l2) _ (by omega) R4.out).mono ?_
    rintro e w5 ⟨a5, n5, c5, rfl, hb5, hr5, hx5⟩
    have HB5 := Lib.hid (HB4.out.trans (hb5.mono HB4.out.size))
    have R5 := Lib.hid hr5
    clear hb5 hr5 hx5
    go_wp2_with fail
    go_ret2
    exact ⟨a5, n5, c5, rfl, HB5.out, R5.out⟩

end Go.Proofs.Ytknimlpdpgpliaa
