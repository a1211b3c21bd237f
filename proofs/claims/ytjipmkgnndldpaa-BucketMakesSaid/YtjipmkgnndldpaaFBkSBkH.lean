/- Contracts of the reader of numbers that make fractions: Fraction, Odd, Ratio, for the seats that have no strings. By the verifier's side. -/
import Derived.Test.YtjipmkgnndldpaaFRefO
import Derived.Test.YtjipmkgnndldpaaFBaseApartPickKeepS
import Derived.Test.YtjipmkgnndldpaaFBkG
namespace Go.Proofs.Ytjipmkgnndldpaa
open Go.RowKit
set_option linter.unusedSimpArgs false

/-- A fraction is handed back; of the elder blocks only the reader's has turned. -/
def Fracs (P : Int → Int → Prop) (b : Nat) (a : Option Addr) (n cap : Nat) (w : World) (e : Ending) (w' : World) : Prop :=
  ∃ x y : Int, P x y ∧ e = .returned (.agg #[.int .i64 x, .int .i64 y]) ∧ SrcAt w' b a n cap ∧ Apart b w w'

/-- Both terms over their divisor. -/
theorem frac_facts (X Y p : Nat) (hp : p = Nat.gcd X Y) (hY : 1 ≤ Y) :
    0 ≤ (X : Int) / (p : Int) ∧ (X : Int) / (p : Int) ≤ X ∧ 1 ≤ (Y : Int) / (p : Int) ∧ (Y : Int) / (p : Int) ≤ Y ∧ Nat.gcd ((X : Int) / (p : Int)).natAbs ((Y : Int) / (p : Int)).natAbs = 1 := by
  have hp1 : 0 < p := by rw [hp]; exact Nat.gcd_pos_of_pos_right X (by omega)
  have e1 : ((X : Int) / (p : Int)) = ((X / p : Nat) : Int) := (Int.natCast_ediv X p).symm
  have e2 : ((Y : Int) / (p : Int)) = ((Y / p : Nat) : Int) := (Int.natCast_ediv Y p).symm
  have d1 : X / p ≤ X := Nat.div_le_self _ _
  have d2 : Y / p ≤ Y := Nat.div_le_self _ _
  have d3 : 1 ≤ Y / p := (Nat.le_div_iff_mul_le hp1).2 (by rw [hp]; have := Nat.gcd_le_right X (show 0 < Y by omega); omega)
  have d4 : Nat.gcd (X / p) (Y / p) = 1 := by
    have := Nat.gcd_div (Nat.gcd_dvd_left X Y) (Nat.gcd_dvd_right X Y)
    rw [hp, this, Nat.div_self (by rw [← hp]; exact hp1)]
  rw [e1, e2]
  exact ⟨Int.natCast_nonneg _, Int.ofNat_le.2 d1, Int.ofNat_le.2 d3, Int.ofNat_le.2 d2, d4⟩

set_option maxHeartbeats 1600000 in
theorem frac_any (top most : Int) (h1 : 0 ≤ top * most) (h2 : top * most ≤ 1152921504606846976) (h3 : 1 ≤ most) (h4 : most ≤ 1152921504606846976) (b : Nat) (a : Option Addr) (n cap : Nat) (w : World) (h : SrcAt w b a n cap) :
    Calls Try.prog 17 #[.pointer (some ⟨b, 0, none⟩), .int .i64 top, .int .i64 most] w
      (Fracs (fun x y => 0 ≤ x ∧ x ≤ top * most ∧ 1 ≤ y ∧ y ≤ most ∧ Nat.gcd x.natAbs y.natAbs = 1) b a n cap w) := by
  have HS := Lib.hid h
  have hlt := h.lt
  clear h
  go_enter Try.func17, Try.ntmps17
  go_wp2_with fail
  refine (n_any _ (by omega) (by omega) b a n cap _ (HS.out.under ((Below.refl _ _).alloc (Nat.le_refl _) _))).mono ?_
  rintro e w1 ⟨x, hx, rfl, hs1, he1⟩
  have HS1 := Lib.hid hs1
  have HE1 := Lib.hid he1
  clear hs1 he1
  go_wp2_with fail
  refine (n_any _ h3 (by omega) b a n cap _ HS1.out).mono ?_
  rintro e w2 ⟨y, hy, rfl, hs2, he2⟩
  have HS2 := Lib.hid hs2
  have HE2 := Lib.hid (HE1.out.trans he2)
  clear hs2 he2
  go_wp2_with fail
  have c0 : w2.cell? ⟨w.heap.size, 0, none⟩ = some (.int .i64 0) := (HE2.out.cell (p := ⟨w.heap.size, 0, none⟩) (Nat.ne_of_gt hlt)).trans (by go_simp)
  have c1 : w2.cell? ⟨w.heap.size, 1, none⟩ = some (.int .i64 0) := (HE2.out.cell (p := ⟨w.heap.size, 1, none⟩) (Nat.ne_of_gt hlt)).trans (by go_simp)
  have z0 : w2.frozen? ⟨w.heap.size, 0, none⟩ = false := (HE2.out.frozen (p := ⟨w.heap.size, 0, none⟩) (Nat.ne_of_gt hlt)).trans (by go_simp)
  have z1 : w2.frozen? ⟨w.heap.size, 1, none⟩ = false := (HE2.out.frozen (p := ⟨w.heap.size, 1, none⟩) (Nat.ne_of_gt hlt)).trans (by go_simp)
  obtain ⟨X, hX⟩ := Int.eq_ofNat_of_zero_le hx.1
  obtain ⟨Y, hY⟩ := Int.eq_ofNat_of_zero_le (show 0 ≤ 1 + y by omega)
  have HX := Lib.hid hX
  have HY := Lib.hid hY
  have bX : X ≤ 1152921504606846976 := by omega
  have bY : Y ≤ 1152921504606846976 := by omega
  have pY : 1 ≤ Y := by omega
  clear hX hY
  go_loopw [9, 10] (fun va vb wr => ∃ p q : Nat, va = .int .i64 p ∧ vb = .int .i64 q ∧ p ≤ 1152921504606846976 ∧ q ≤ 1152921504606846976 ∧ Hid (Nat.gcd p q = Nat.gcd X Y) ∧ ∃ m, wr = w2.drewN m) (fun _ vb _ => (intOf vb).toNat)
  case atStart => exact ⟨X, Y, by rw [HX.out], by rw [HY.out], bX, bY, rfl, 0, rfl⟩
  case round =>
    obtain ⟨p, q, rfl, rfl, hp, hq, hg, m, rfl⟩ := hrel
    by_cases h0 : q = 0
    · subst h0
      have hg' : p = Nat.gcd X Y := by have := hg.out; simpa using this
      have hp1 : 1 ≤ p := by rw [hg']; exact Nat.gcd_pos_of_pos_right X (by omega)
      have HG := Lib.hid hg'
      clear hg' hg
      have hx0 := hx.1
      have hp2 : (1 : Int) ≤ (p : Int) := by omega
      have hp3 : ¬ (p : Int) = 0 := by omega
      go_wp2_with fail
      go_region
      all_goals (try go_wp2_with fail)
      refine bodyPost_ret (v := .agg #[.int .i64 (x / p), .int .i64 ((1 + y) / p)]) (by simp [results, Try.results17, go_sem, c0, c1, z0, z1]) rfl ?_
      have HA : Apart b w (((w2.drewN (m + 1)).setCell ⟨w.heap.size, 0, none⟩ (.int .i64 (x / (p : Int)))).setCell ⟨w.heap.size, 1, none⟩ (.int .i64 ((1 + y) / (p : Int)))) :=
        (((((Apart.refl b w).alloc _).trans HE2.out.apart).drewN _).setNew (Nat.le_refl _) _).setNew (Nat.le_refl _) _
      obtain ⟨f1, f2, f3, f4, f5⟩ := frac_facts X Y p HG.out pY
      rw [← HX.out] at f1 f2 f5
      rw [← HY.out] at f3 f4 f5
      refine ⟨_, _, ⟨f1, by omega, f3, by omega, f5⟩, rfl, SrcAt.mk2 HS.out HA ?_, HA⟩
      obtain ⟨k, hk, hb⟩ := HS2.out.src
      refine ⟨k, hk, ?_⟩
      rw [Below.heap_setCell _ _ _ _ (Nat.ne_of_lt hlt), Below.heap_setCell _ _ _ _ (Nat.ne_of_lt hlt)]
      exact hb
    · have hq0 : 0 < q := by omega
      have hql := Nat.mod_lt p hq0
      go_wp2_with fail
      go_quiet (fail)
      go_wp2_with fail
      go_roundw
      case rel => exact ⟨q, p % q, rfl, by rw [Int.natCast_emod], hq, by omega, (gcd_step p q).trans hg.out, m + _, World.drewN_drewN _ _ _⟩
      case measure => simp [intOf]; omega

theorem Box.apart {w w' : World} {b p : Nat} {x d : Int} (h : Box w p x d) (he : Apart b w w') (hp : p ≠ b) : Box w' p x d := by
  obtain ⟨h1, h2⟩ := acell he
  exact ⟨(h1 p 0 h.lt hp).trans h.c0, (h1 p 1 h.lt hp).trans h.c1, (h2 p 0 h.lt hp).trans h.f0, (h2 p 1 h.lt hp).trans h.f1⟩

set_option maxHeartbeats 1600000 in
theorem odd_any (b : Nat) (a : Option Addr) (n cap : Nat) (w : World) (h : SrcAt w b a n cap) :
    Calls Try.prog 188 #[.pointer (some ⟨b, 0, none⟩)] w (Takes In64 b a n cap w) := by
  have HS := Lib.hid h
  clear h
  go_enter Try.func188, Try.ntmps188
  go_wp2_with fail
  refine (n_any 5 (by omega) (by omega) b a n cap _ HS.out).mono ?_
  rintro e w1 ⟨r, hr, rfl, hs, he⟩
  have HS1 := Lib.hid hs
  have HE1 := Lib.hid he
  have hlt := hs.lt
  clear hs he
  by_cases r0 : r = 0
  · subst r0
    go_wp2_with fail
    refine (pick_any w1.heap.size 6 6 (by omega) (by omega) b (Nat.ne_of_gt hlt) a n cap _ (HS1.out.under ((Below.refl _ _).alloc (Nat.le_refl _) _))
      (list_new w1 [-9223372036854775808, 9223372036854775807, 4611686018427387904, -4611686018427387904, 2147483648, -2147483648] 3 (by decide))).mono ?_
    rintro e w2 ⟨z, hz, rfl, hs, ha⟩
    go_wp2_with fail
    go_ret
    exact ⟨z, hz, rfl, hs, (HE1.out.apart.alloc _).trans ha⟩
  · have t0 : (r == 0) = false := by simpa using r0
    by_cases r1 : r = 1
    · subst r1
      clear t0
      go_wp2_with fail
      refine (pick_any w1.heap.size 5 5 (by omega) (by omega) b (Nat.ne_of_gt hlt) a n cap _ (HS1.out.under ((Below.refl _ _).alloc (Nat.le_refl _) _))
        (list_new w1 [1073741824, 1073741825, -1073741824, -1073741825, 1073741823] 3 (by decide))).mono ?_
      rintro e w2 ⟨z, hz, rfl, hs, ha⟩
      go_wp2_with fail
      go_ret
      exact ⟨z, hz, rfl, hs, (HE1.out.apart.alloc _).trans ha⟩
    · have t1 : (r == 1) = false := by simpa using r1
      by_cases r2 : r = 2
      · subst r2
        clear t0 t1
        go_wp2_with fail
        refine (n_any 2147483648 (by omega) (by omega) b a n cap _ HS1.out).mono ?_
        rintro e w2 ⟨z, hz, rfl, hs, ha⟩
        have HQ := Lib.hid (And.intro hs ha)
        clear hs ha
        go_wp2_with fail
        go_ret
        exact ⟨z - 1073741824, ⟨by omega, by omega⟩, rfl, HQ.out.1, (HE1.out.trans HQ.out.2).apart⟩
      · have t2 : (r == 2) = false := by simpa using r2
        go_wp2_with fail
        refine (n_any 41 (by omega) (by omega) b a n cap _ HS1.out).mono ?_
        rintro e w2 ⟨z, hz, rfl, hs, ha⟩
        have HQ := Lib.hid (And.intro hs ha)
        clear hs ha
        go_wp2_with fail
        go_ret
        exact ⟨z - 20, ⟨by omega, by omega⟩, rfl, HQ.out.1, (HE1.out.trans HQ.out.2).apart⟩

set_option maxHeartbeats 1600000 in
/-- A fraction of any two numbers, or a small one. -/
theorem ratio_any (b : Nat) (a : Option Addr) (n cap : Nat) (w : World) (h : SrcAt w b a n cap) :
    Calls Try.prog 94 #[.pointer (some ⟨b, 0, none⟩)] w (Fracs (fun x y => In64 x ∧ In64 y) b a n cap w) := by
  have HS := Lib.hid h
  have hlt := h.lt
  clear h
  have hne : ¬ w.heap.size = b := Nat.ne_of_gt hlt
  go_enter Try.func94, Try.ntmps94
  go_wp2_with fail
  refine (n_any 3 (by omega) (by omega) b a n cap _ (HS.out.under ((Below.refl _ _).alloc (Nat.le_refl _) _))).mono ?_
  rintro e w1 ⟨r, hr, rfl, hs, he⟩
  have HS1 := Lib.hid hs
  have HA1 := Lib.hid (((Apart.refl b w).alloc (.cells #[.int .i64 0, .int .i64 0] 23)).trans he.apart)
  have BR := Lib.hid ((Box.new w 0 0 23).else he hne)
  clear hs he
  by_cases r0 : r = 0
  · subst r0
    go_wp2_with fail
    refine (odd_any b a n cap _ HS1.out).mono ?_
    rintro e w2 ⟨x, hx, rfl, hs, he⟩
    have HS2 := Lib.hid hs
    have HA2 := Lib.hid (HA1.out.trans he)
    have BR2 := Lib.hid (BR.out.apart he hne)
    clear hs he
    go_wp2_with fail
    refine (odd_any b a n cap _ HS2.out).mono ?_
    rintro e w3 ⟨y, hy, rfl, hs, he⟩
    have HS3 := Lib.hid hs
    have HA3 := Lib.hid (HA2.out.trans he)
    obtain ⟨c0, c1, f0, f1⟩ := BR2.out.apart he hne
    clear hs he
    go_wp2_with fail
    refine bodyPost_ret (v := .agg #[.int .i64 x, .int .i64 y]) (by simp [results, Try.results94, go_sem, c0, c1, f0, f1]) rfl ?_
    have HA := (HA3.out.setNew (p := ⟨w.heap.size, 0, none⟩) (Nat.le_refl _) (.int .i64 x)).setNew (p := ⟨w.heap.size, 1, none⟩) (Nat.le_refl _) (.int .i64 y)
    refine ⟨x, y, ⟨hx, hy⟩, rfl, SrcAt.mk2 HS.out HA ?_, HA⟩
    obtain ⟨k, hk, hb⟩ := HS3.out.src
    refine ⟨k, hk, ?_⟩
    rw [Below.heap_setCell _ _ _ _ (Ne.symm hne), Below.heap_setCell _ _ _ _ (Ne.symm hne)]
    exact hb
  · have t0 : (r == 0) = false := by simpa using r0
    go_wp2_with fail
    refine (frac_any 9 6 (by omega) (by omega) (by omega) (by omega) b a n cap _ HS1.out).mono ?_
    rintro e w2 ⟨x, y, hxy, rfl, hs, he⟩
    have HS3 := Lib.hid hs
    have HA3 := Lib.hid (HA1.out.trans he)
    obtain ⟨c0, c1, f0, f1⟩ := BR.out.apart he hne
    have HXY := Lib.hid hxy
    clear hs he hxy
    go_wp2_with fail
    refine bodyPost_ret (v := .agg #[.int .i64 x, .int .i64 y]) (by simp [results, Try.results94, go_sem, c0, c1, f0, f1]) rfl ?_
    have HA := (HA3.out.setNew (p := ⟨w.heap.size, 0, none⟩) (Nat.le_refl _) (.int .i64 x)).setNew (p := ⟨w.heap.size, 1, none⟩) (Nat.le_refl _) (.int .i64 y)
    have hq := HXY.out
    refine ⟨x, y, ⟨⟨by omega, by omega⟩, ⟨by omega, by omega⟩⟩, rfl, SrcAt.mk2 HS.out HA ?_, HA⟩
    obtain ⟨k, hk, hb⟩ := HS3.out.src
    refine ⟨k, hk, ?_⟩
    rw [Below.heap_setCell _ _ _ _ (Ne.symm hne), Below.heap_setCell _ _ _ _ (Ne.symm hne)]
    exact hb


end Go.Proofs.Ytjipmkgnndldpaa

namespace Go.Proofs.Ytjipmkgnndldpaa
open Go.RowKit
set_option linter.unusedSimpArgs false
set_option linter.unusedVariables false

/-! ## Lists that are drawn -/

/-- A block of n numbers, each with the property. -/
structure Lst (P : Int → Prop) (g n : Nat) (u : World) : Prop where
  cell : ∀ i, i < n → ∃ z, u.cell? ⟨g, i, none⟩ = some (.int .i64 z) ∧ P z
  free : ∀ i, i < n → u.frozen? ⟨g, i, none⟩ = false
theorem Lst.apart {P : Int → Prop} {g n b : Nat} {u v : World} (h : Lst P g n u) (ha : Apart b u v) (hg : g ≠ b) : Lst P g n v := by
  obtain ⟨h1, h2⟩ := acell ha
  refine ⟨fun i hi => ?_, fun i hi => ?_⟩
  · obtain ⟨z, hc, hp⟩ := h.cell i hi
    exact ⟨z, (h1 g i (lt_of_cell hc) hg).trans hc, hp⟩
  · obtain ⟨z, hc, hp⟩ := h.cell i hi
    exact (h2 g i (lt_of_cell hc) hg).trans (h.free i hi)
theorem Lst.under {P : Int → Prop} {g n : Nat} {u v : World} (h : Lst P g n u) (hb : Below u.heap.size u v) : Lst P g n v := by
  obtain ⟨h1, h2⟩ := bcell hb
  refine ⟨fun i hi => ?_, fun i hi => ?_⟩
  · obtain ⟨z, hc, hp⟩ := h.cell i hi
    exact ⟨z, (h1 g i (lt_of_cell hc)).trans hc, hp⟩
  · obtain ⟨z, hc, hp⟩ := h.cell i hi
    exact (h2 g i (lt_of_cell hc)).trans (h.free i hi)
theorem Lst.set {P : Int → Prop} {g n k : Nat} {u : World} (h : Lst P g n u) (hk : k < n) {z : Int} (hz : P z) : Lst P g n (u.setCell ⟨g, k, none⟩ (.int .i64 z)) := by
  refine ⟨fun i hi => ?_, fun i hi => (World.frozen?_setCell _ _ _ _).trans (h.free i hi)⟩
  by_cases e : i = k
  · subst e
    obtain ⟨y, hc, hp⟩ := h.cell i hi
    exact ⟨z, World.cell?_setCell_same _ _ _ hc, hz⟩
  · obtain ⟨y, hc, hp⟩ := h.cell i hi
    exact ⟨y, (World.cell?_setCell_other _ _ _ _ (fun he => e (by cases he; rfl))).trans hc, hp⟩
theorem Lst.make {P : Int → Prop} (w : World) (n : Nat) (h0 : P 0) : Lst P w.heap.size n (w.alloc (.cells (madeCells #[.int .i64 0] n) 3)) :=
  ⟨fun i hi => ⟨0, made_cell w n i hi, h0⟩, fun i hi => made_frozen w n i⟩
theorem Lst.list {P : Int → Prop} {g : Nat} {u : World} : ∀ {n : Nat}, Lst P g n u → ∃ xs : List Int, xs.length = n ∧ ∀ i, i < n → u.cell? ⟨g, i, none⟩ = some (.int .i64 (xs.getD i 0)) ∧ P (xs.getD i 0)
  | 0, _ => ⟨[], rfl, fun i hi => absurd hi (Nat.not_lt_zero _)⟩
  | n + 1, h => by
    obtain ⟨xs, hl, hx⟩ := Lst.list (n := n) (u := u) ⟨fun i hi => h.cell i (by omega), fun i hi => h.free i (by omega)⟩
    obtain ⟨z, hc, hp⟩ := h.cell n (by omega)
    refine ⟨xs ++ [z], by simp [hl], fun i hi => ?_⟩
    by_cases e : i = n
    · subst e
      have : (xs ++ [z]).getD i 0 = z := by simp [List.getD, ← hl]
      rw [this]; exact ⟨hc, hp⟩
    · have : (xs ++ [z]).getD i 0 = xs.getD i 0 := by simp [List.getD, List.getElem?_append_left (show i < xs.length by omega)]
      rw [this]; exact hx i (by omega)
theorem Lst.row {P : Int → Prop} {g n : Nat} {u : World} (h : Lst P g n u) (hn : n ≤ 100000) (hP : ∀ z, P z → In64 z) : ∃ xs : List Int, xs.length = n ∧ (∀ i, i < n → P (xs.getD i 0)) ∧ RowZ u (some ⟨g, 0, none⟩) n n xs := by
  obtain ⟨xs, hl, hx⟩ := h.list
  refine ⟨xs, hl, fun i hi => (hx i hi).2, ⟨hl, Nat.le_refl _, by omega, by omega, fun i hi => ⟨_, rfl, ?_⟩, fun i hi => hP _ (hx i hi).2⟩⟩
  have ea : ((⟨g, 0, none⟩ : Addr).add i) = ⟨g, i, none⟩ := by unfold Addr.add; split <;> simp_all
  rw [ea]; exact (hx i hi).1

theorem Bk4.apart {w w' : World} {b p : Nat} {bn bd rn rd : Int} (h : Bk4 w p bn bd rn rd) (ha : Apart b w w') (hp : p ≠ b) : Bk4 w' p bn bd rn rd := by
  obtain ⟨h1, _⟩ := acell ha
  have l := h.lt
  exact ⟨(h1 p 0 l hp).trans h.c0, (h1 p 1 l hp).trans h.c1, (h1 p 2 l hp).trans h.c2, (h1 p 3 l hp).trans h.c3⟩
end Go.Proofs.Ytjipmkgnndldpaa
