/- The document's paces: good, Pace. By the verifier's side. -/
import Derived.Test.YtjipmkgnndldpaaESvASvB
import Derived.Test.YtjipmkgnndldpaaEBkFSvFSvG
import Derived.Test.YtjipmkgnndldpaaER5D
import Derived.Test.YtjipmkgnndldpaaELong
import Derived.Test.YtjipmkgnndldpaaEConER
namespace Go.Proofs.Ytjipmkgnndldpaa
open Go.RowKit
set_option linter.unusedSimpArgs false
set_option linter.unusedVariables false

set_option maxHeartbeats 1600000 in
theorem rgood2_any (n1 d1 n2 d2 : Int) (c : Bool) (hc : (okB n1 d1 && okB n2 d2) = c) (w : World) : Calls Try.prog 97 #[.agg #[.int .i64 n1, .int .i64 d1], .agg #[.int .i64 n2, .int .i64 d2]] w (Says (.bool c) w) := by
  obtain ⟨v1, h1⟩ : ∃ v, okF n1 d1 = v := ⟨_, rfl⟩
  obtain ⟨v2, h2⟩ : ∃ v, okF n2 d2 = v := ⟨_, rfl⟩
  have HV := Lib.hid (And.intro h1 h2)
  unfold okB at hc
  rw [h1, h2] at hc
  clear h1 h2
  cases v1 with
  | false =>
    obtain rfl : c = false := by rw [← hc]; rfl
    clear hc
    go_enter Try.func97, Try.ntmps97
    go_wp2_with fail
    refine (frvalid_any n1 d1 _ HV.out.1 _).mono ?_
    rintro e w1 ⟨rfl, hb⟩
    obtain ⟨A1, B1⟩ := fr_boxes2 hb
    have HBB := Lib.hid (fr_two1 hb)
    have HA := Lib.hid A1
    have HB := Lib.hid B1
    clear hb A1 B1
    obtain ⟨a0, a1, _, _⟩ := HA.out
    go_wp2_with fail
    go_ret
    exact ⟨rfl, HBB.out⟩
  | true =>
    by_cases t1 : 0 ≤ n1
    rotate_left
    · have t1d : decide (0 ≤ n1) = false := decide_eq_false t1
      obtain rfl : c = false := by rw [← hc, t1d]; rfl
      clear hc
      go_enter Try.func97, Try.ntmps97
      go_wp2_with fail
      refine (frvalid_any n1 d1 _ HV.out.1 _).mono ?_
      rintro e w1 ⟨rfl, hb⟩
      obtain ⟨A1, B1⟩ := fr_boxes2 hb
      have HBB := Lib.hid (fr_two1 hb)
      have HA := Lib.hid A1
      have HB := Lib.hid B1
      clear hb A1 B1
      obtain ⟨a0, a1, _, _⟩ := HA.out
      go_wp2_with fail
      go_ret
      exact ⟨rfl, HBB.out⟩
    have t1d : decide (0 ≤ n1) = true := decide_eq_true t1
    cases v2 with
    | false =>
      obtain rfl : c = false := by rw [← hc, t1d]; rfl
      clear hc
      go_enter Try.func97, Try.ntmps97
      go_wp2_with fail
      refine (frvalid_any n1 d1 _ HV.out.1 _).mono ?_
      rintro e w1 ⟨rfl, hb⟩
      obtain ⟨A1, B1⟩ := fr_boxes2 hb
      have HBB := Lib.hid (fr_two1 hb)
      have HA := Lib.hid A1
      have HB := Lib.hid B1
      clear hb A1 B1
      obtain ⟨a0, a1, _, _⟩ := HA.out
      obtain ⟨b0, b1, _, _⟩ := HB.out
      go_wp2_with fail
      clear a0 a1 b0 b1
      refine (frvalid_any n2 d2 _ HV.out.2 _).mono ?_
      rintro e w2 ⟨rfl, hb⟩
      have HB2 := Lib.hid (HBB.out.trans (hb.mono HBB.out.size))
      obtain ⟨b0, b1, _, _⟩ := HB.out.below hb
      clear hb
      go_wp2_with fail
      go_ret
      exact ⟨rfl, HB2.out⟩
    | true =>
      by_cases t2 : 0 ≤ n2
      · have t2d : decide (0 ≤ n2) = true := decide_eq_true t2
        obtain rfl : c = true := by rw [← hc, t1d, t2d]; rfl
        clear hc
        go_enter Try.func97, Try.ntmps97
        go_wp2_with fail
        refine (frvalid_any n1 d1 _ HV.out.1 _).mono ?_
        rintro e w1 ⟨rfl, hb⟩
        obtain ⟨A1, B1⟩ := fr_boxes2 hb
        have HBB := Lib.hid (fr_two1 hb)
        have HA := Lib.hid A1
        have HB := Lib.hid B1
        clear hb A1 B1
        obtain ⟨a0, a1, _, _⟩ := HA.out
        obtain ⟨b0, b1, _, _⟩ := HB.out
        go_wp2_with fail
        clear a0 a1 b0 b1
        refine (frvalid_any n2 d2 _ HV.out.2 _).mono ?_
        rintro e w2 ⟨rfl, hb⟩
        have HB2 := Lib.hid (HBB.out.trans (hb.mono HBB.out.size))
        obtain ⟨b0, b1, _, _⟩ := HB.out.below hb
        clear hb
        go_wp2_with fail
        go_ret
        exact ⟨rfl, HB2.out⟩
      · have t2d : decide (0 ≤ n2) = false := decide_eq_false t2
        obtain rfl : c = false := by rw [← hc, t1d, t2d]; rfl
        clear hc
        go_enter Try.func97, Try.ntmps97
        go_wp2_with fail
        refine (frvalid_any n1 d1 _ HV.out.1 _).mono ?_
        rintro e w1 ⟨rfl, hb⟩
        obtain ⟨A1, B1⟩ := fr_boxes2 hb
        have HBB := Lib.hid (fr_two1 hb)
        have HA := Lib.hid A1
        have HB := Lib.hid B1
        clear hb A1 B1
        obtain ⟨a0, a1, _, _⟩ := HA.out
        obtain ⟨b0, b1, _, _⟩ := HB.out
        go_wp2_with fail
        clear a0 a1 b0 b1
        refine (frvalid_any n2 d2 _ HV.out.2 _).mono ?_
        rintro e w2 ⟨rfl, hb⟩
        have HB2 := Lib.hid (HBB.out.trans (hb.mono HBB.out.size))
        obtain ⟨b0, b1, _, _⟩ := HB.out.below hb
        clear hb
        go_wp2_with fail
        go_ret
        exact ⟨rfl, HB2.out⟩

section
variable {W u v : World} {O : Nat} {p inc : Int} {f : Nat → Int} {k g cap : Nat}
end
end Go.Proofs.Ytjipmkgnndldpaa
