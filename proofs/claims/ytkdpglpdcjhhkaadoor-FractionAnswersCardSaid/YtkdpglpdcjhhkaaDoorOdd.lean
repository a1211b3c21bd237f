/- Contracts of the reader of numbers: Pick, Odd, Ratio. By the verifier's side. -/
import Derived.Test.YtkdpglpdcjhhkaaDoorBox
import Derived.Test.YtkdpglpdcjhhkaaDoorPick
namespace Go.Proofs.YtkdpglpdcjhhkaaDoor
open Go.RowKit
set_option linter.unusedSimpArgs false

theorem Box.apart {w w' : World} {b p : Nat} {x d : Int} (h : Box w p x d) (he : Apart b w w') (hp : p ≠ b) : Box w' p x d := by
  obtain ⟨h1, h2⟩ := acell he
  exact ⟨(h1 p 0 h.lt hp).trans h.c0, (h1 p 1 h.lt hp).trans h.c1, (h2 p 0 h.lt hp).trans h.f0, (h2 p 1 h.lt hp).trans h.f1⟩

set_option maxHeartbeats 1600000 in
theorem odd_any (b : Nat) (a : Option Addr) (n cap : Nat) (w : World) (h : SrcAt w b a n cap) :
    Calls Tryd.prog 11 #[.pointer (some ⟨b, 0, none⟩)] w (Takes In64 b a n cap w) := by
  have HS := Lib.hid h
  clear h
  go_enter Tryd.func11, Tryd.ntmps11
  go_wp2_with fail
  refine (n_any 5 (by omega) (by omega) b a n cap _ HS.out).mono ?_
  rintro e w1 ⟨r, hr, rfl, hs, he⟩
  have HS1 := Lib.hid hs
  have HE1 := Lib.hid he
  have hlt := hs.lt
  clear hs he
  by_cases r0 : r = 0
  · subst r0
    go_wp2_with fail
    refine (pick_any w1.heap.size 6 6 (by omega) (by omega) b (Nat.ne_of_gt hlt) a n cap _ (HS1.out.under ((Below.refl _ _).alloc (Nat.le_refl _) _))
      (list_new w1 [-9223372036854775808, 9223372036854775807, 4611686018427387904, -4611686018427387904, 2147483648, -2147483648] 3 (by decide))).mono ?_
    rintro e w2 ⟨z, hz, rfl, hs, ha⟩
    go_wp2_with fail
    go_ret
    exact ⟨z, hz, rfl, hs, (HE1.out.apart.alloc _).trans ha⟩
  · have t0 : (r == 0) = false := by simpa using r0
    by_cases r1 : r = 1
    · subst r1
      clear t0
      go_wp2_with fail
      refine (pick_any w1.heap.size 5 5 (by omega) (by omega) b (Nat.ne_of_gt hlt) a n cap _ (HS1.out.under ((Below.refl _ _).alloc (Nat.le_refl _) _))
        (list_new w1 [1073741824, 1073741825, -1073741824, -1073741825, 1073741823] 3 (by decide))).mono ?_
      rintro e w2 ⟨z, hz, rfl, hs, ha⟩
      go_wp2_with fail
      go_ret
      exact ⟨z, hz, rfl, hs, (HE1.out.apart.alloc _).trans ha⟩
    · have t1 : (r == 1) = false := by simpa using r1
      by_cases r2 : r = 2
      · subst r2
        clear t0 t1
        go_wp2_with fail
        refine (n_any 2147483648 (by omega) (by omega) b a n cap _ HS1.out).mono ?_
        rintro e w2 ⟨z, hz, rfl, hs, ha⟩
        have HQ := Lib.hid (And.intro hs ha)
        clear hs ha
        go_wp2_with fail
        go_ret
        exact ⟨z - 1073741824, ⟨by omega, by omega⟩, rfl, HQ.out.1, (HE1.out.trans HQ.out.2).apart⟩
      · have t2 : (r == 2) = false := by simpa using r2
        go_wp2_with fail
        refine (n_any 41 (by omega) (by omega) b a n cap _ HS1.out).mono ?_
        rintro e w2 ⟨z, hz, rfl, hs, ha⟩
        have HQ := Lib.hid (And.intro hs ha)
        clear hs ha
        go_wp2_with fail
        go_ret
        exact ⟨z - 20, ⟨by omega, by omega⟩, rfl, HQ.out.1, (HE1.out.trans HQ.out.2).apart⟩

set_option maxHeartbeats 1600000 in
/-- A fraction of any two numbers, or a small one. -/
theorem ratio_any (b : Nat) (a : Option Addr) (n cap : Nat) (w : World) (h : SrcAt w b a n cap) :
    Calls Tryd.prog 15 #[.pointer (some ⟨b, 0, none⟩)] w (Fracs (fun x y => In64 x ∧ In64 y) b a n cap w) := by
  have HS := Lib.hid h
  have hlt := h.lt
  clear h
  have hne : ¬ w.heap.size = b := Nat.ne_of_gt hlt
  go_enter Tryd.func15, Tryd.ntmps15
  go_wp2_with fail
  refine (n_any 3 (by omega) (by omega) b a n cap _ (HS.out.under ((Below.refl _ _).alloc (Nat.le_refl _) _))).mono ?_
  rintro e w1 ⟨r, hr, rfl, hs, he⟩
  have HS1 := Lib.hid hs
  have HA1 := Lib.hid (((Apart.refl b w).alloc (.cells #[.int .i64 0, .int .i64 0] 23)).trans he.apart)
  have BR := Lib.hid ((Box.new w 0 0 23).else he hne)
  clear hs he
  by_cases r0 : r = 0
  · subst r0
    go_wp2_with fail
    refine (odd_any b a n cap _ HS1.out).mono ?_
    rintro e w2 ⟨x, hx, rfl, hs, he⟩
    have HS2 := Lib.hid hs
    have HA2 := Lib.hid (HA1.out.trans he)
    have BR2 := Lib.hid (BR.out.apart he hne)
    clear hs he
    go_wp2_with fail
    refine (odd_any b a n cap _ HS2.out).mono ?_
    rintro e w3 ⟨y, hy, rfl, hs, he⟩
    have HS3 := Lib.hid hs
    have HA3 := Lib.hid (HA2.out.trans he)
    obtain ⟨c0, c1, f0, f1⟩ := BR2.out.apart he hne
    clear hs he
    go_wp2_with fail
    refine bodyPost_ret (v := .agg #[.int .i64 x, .int .i64 y]) (by simp [results, Tryd.results15, go_sem, c0, c1, f0, f1]) rfl ?_
    have HA := (HA3.out.setNew (p := ⟨w.heap.size, 0, none⟩) (Nat.le_refl _) (.int .i64 x)).setNew (p := ⟨w.heap.size, 1, none⟩) (Nat.le_refl _) (.int .i64 y)
    refine ⟨x, y, ⟨hx, hy⟩, rfl, SrcAt.mk2 HS.out HA ?_, HA⟩
    obtain ⟨k, hk, hb⟩ := HS3.out.src
    refine ⟨k, hk, ?_⟩
    rw [Below.heap_setCell _ _ _ _ (Ne.symm hne), Below.heap_setCell _ _ _ _ (Ne.symm hne)]
    exact hb
  · have t0 : (r == 0) = false := by simpa using r0
    go_wp2_with fail
    refine (frac_any 9 6 (by omega) (by omega) (by omega) (by omega) b a n cap _ HS1.out).mono ?_
    rintro e w2 ⟨x, y, hxy, rfl, hs, he⟩
    have HS3 := Lib.hid hs
    have HA3 := Lib.hid (HA1.out.trans he)
    obtain ⟨c0, c1, f0, f1⟩ := BR.out.apart he hne
    have HXY := Lib.hid hxy
    clear hs he hxy
    go_wp2_with fail
    refine bodyPost_ret (v := .agg #[.int .i64 x, .int .i64 y]) (by simp [results, Tryd.results15, go_sem, c0, c1, f0, f1]) rfl ?_
    have HA := (HA3.out.setNew (p := ⟨w.heap.size, 0, none⟩) (Nat.le_refl _) (.int .i64 x)).setNew (p := ⟨w.heap.size, 1, none⟩) (Nat.le_refl _) (.int .i64 y)
    have hq := HXY.out
    refine ⟨x, y, ⟨⟨by omega, by omega⟩, ⟨by omega, by omega⟩⟩, rfl, SrcAt.mk2 HS.out HA ?_, HA⟩
    obtain ⟨k, hk, hb⟩ := HS3.out.src
    refine ⟨k, hk, ?_⟩
    rw [Below.heap_setCell _ _ _ _ (Ne.symm hne), Below.heap_setCell _ _ _ _ (Ne.symm hne)]
    exact hb

end Go.Proofs.YtkdpglpdcjhhkaaDoor
