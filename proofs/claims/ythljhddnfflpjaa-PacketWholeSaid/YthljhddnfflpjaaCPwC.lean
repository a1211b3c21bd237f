/- Contracts of package pointwise: plus, lesser, greater, growth, the closures. By the verifier's side. -/
import Derived.Test.YthljhddnfflpjaaCPwB
namespace Go.Proofs.Ythljhddnfflpjaa
open Go.RowKit
set_option linter.unusedSimpArgs false

theorem Mid.bd {x : Int} (h : Mid x) : 0 ≤ x ∧ x ≤ 4611686018427387904 ∧ (x = 4611686018427387904 ∨ x ≤ 1125899906842624) := by
  unfold Mid infV at h; omega

set_option maxHeartbeats 400000 in
theorem pplus_any (a b : Int) (ha : Mid a) (hb : Mid b) (w : World) : Calls Try.prog 109 #[.int .i64 a, .int .i64 b] w fun e w' => e = .returned (.int .i64 (plI a b)) ∧ w' = w := by
  obtain ⟨a1, a2, a3⟩ := ha.bd
  obtain ⟨b1, b2, b3⟩ := hb.bd
  by_cases h1 : a = 4611686018427387904
  · subst h1
    have e : plI 4611686018427387904 b = 4611686018427387904 := plI_l b
    rw [e]
    clear ha hb
    go_enter Try.func109, Try.ntmps109
    go_wp2_with fail
    go_ret
    exact ⟨rfl, rfl⟩
  · by_cases h2 : b = 4611686018427387904
    · subst h2
      have e : plI a 4611686018427387904 = 4611686018427387904 := plI_r a
      rw [e]
      have t1 : (a == 4611686018427387904) = false := by simpa using h1
      clear ha hb h1
      go_enter Try.func109, Try.ntmps109
      go_wp2_with fail
      go_ret
      exact ⟨rfl, rfl⟩
    · have e : plI a b = a + b := plI_fin h1 h2
      rw [e]
      have t1 : (a == 4611686018427387904) = false := by simpa using h1
      have t2 : (b == 4611686018427387904) = false := by simpa using h2
      have a4 : a ≤ 1125899906842624 := by omega
      have b4 : b ≤ 1125899906842624 := by omega
      clear ha hb h1 h2 a3 b3 e
      go_enter Try.func109, Try.ntmps109
      go_wp2_with fail
      go_ret
      exact ⟨rfl, rfl⟩

set_option maxHeartbeats 400000 in
theorem greater_any (a b : Int) (w : World) : Calls Try.prog 106 #[.int .i64 a, .int .i64 b] w fun e w' => e = .returned (.int .i64 (max a b)) ∧ w' = w := by
  by_cases h : a ≤ b
  · have e : max a b = b := by omega
    rw [e]
    go_enter Try.func106, Try.ntmps106
    go_wp2_with fail
    all_goals go_ret
    all_goals exact ⟨ret_int (by omega), rfl⟩
  · have e : max a b = a := by omega
    rw [e]
    go_enter Try.func106, Try.ntmps106
    go_wp2_with fail
    all_goals go_ret
    all_goals exact ⟨ret_int (by omega), rfl⟩

set_option maxHeartbeats 800000 in
theorem growth_any (a : Option Addr) (n cap : Nat) (zs : List Int) (p : Nat) (inc : Int) (g : Good zs p inc) (L : Nat) (hL : L ≤ 120) (G : Int) (hG : growI zs p inc L = G) (w : World) (h : RowZ w a n cap zs) :
    Calls Try.prog 104 #[curV a n cap p inc, .int .i64 L] w (Says (.int .i64 G) w) := by
  have hB : Below w.heap.size w (w.alloc (.cells #[.slice a n cap, .int .i64 p, .int .i64 inc] 24)) := (Below.refl _ _).alloc (Nat.le_refl _) _
  have HBl := Lib.hid hB
  have H := Lib.hid (h.under hB)
  have KF := Lib.hid (Cur3.new w (.slice a n cap) (.int .i64 p) (.int .i64 inc) 24)
  have a1 := g.p1; have a2 := g.p2; have a3 := g.i0; have a4 := g.i1
  have hm := grow_mid g hL
  rw [hG] at hm
  by_cases hi : InfC zs
  · have HO := Lib.hid (finB_inf (p := p) (inc := inc) hi)
    obtain rfl : G = 4611686018427387904 := by rw [← hG, growI_inf hi]
    clear h hB g hG hi hm
    go_enter Try.func104, Try.ntmps104
    go_wp2_with fail
    refine (finite_any a n cap zs p inc ⟨by omega, by omega⟩ ⟨by omega, by omega⟩ false HO.out _ H.out).mono ?_
    rintro e w1 ⟨rfl, hb⟩
    have HB1 := Lib.hid (HBl.out.trans (hb.mono HBl.out.size))
    clear hb
    go_wp2_with fail
    go_ret
    exact ⟨rfl, HB1.out⟩
  · have HO := Lib.hid (finB_fin ((okC_iff zs p inc).2 g) hi)
    obtain ⟨q, hq⟩ : ∃ q, L / p = q := ⟨_, rfl⟩
    have hqL : q ≤ L := by rw [← hq]; exact Nat.div_le_self _ _
    rw [growI_fin hi, hq] at hG
    have r1 : (L : Int) / (p : Int) = (q : Int) := by rw [← hq, Int.natCast_ediv]
    have r1t : (L : Int).tdiv (p : Int) = (q : Int) := by rw [Int.tdiv_eq_ediv_of_nonneg (by omega)]; exact r1
    obtain ⟨m1, m2, _⟩ := hm.bd
    have r2 : IntKind.i64.wrap ((q : Int) * inc) = G := by rw [hG]; exact IntWalk.i64_in _ ⟨by omega, by omega⟩
    have r3 : ¬ p = 0 := by omega
    have r4 : ¬ (p : Int) = 0 := by omega
    clear h hB g hG hi hm hq
    go_enter Try.func104, Try.ntmps104
    go_wp2_with fail
    refine (finite_any a n cap zs p inc ⟨by omega, by omega⟩ ⟨by omega, by omega⟩ true HO.out _ H.out).mono ?_
    rintro e w1 ⟨rfl, hb⟩
    have HB1 := Lib.hid (HBl.out.trans (hb.mono HBl.out.size))
    obtain ⟨c0, c1, c2, f0, f1, f2⟩ := KF.out.below hb
    clear hb
    go_wp2_with fail
    go_quiet (fail)
    go_wp2_with fail
    go_ret
    exact ⟨rfl, HB1.out.drewN _⟩

/-! ## The closures -/

section
variable {fid : FuncId} {caps : Array Value} {T : Nat} {f : Nat → Int} {w : World} {bv bx : Nat} {x : Int}

set_option maxHeartbeats 800000 in
theorem lower1_any (hv : w.cell? ⟨bv, 0, none⟩ = some (.func (.func fid) #[] caps)) (hx : w.cell? ⟨bx, 0, none⟩ = some (.int .i64 x)) (eg : ∀ (args : Array Value) (w : World), (callFunc fid args).run Try.prog w = .ok (.enter fid args) w)
    (hcl : ClosG fid caps T f w) (hx0 : 0 ≤ x) (hx1 : x ≤ 1073741824) (hb : ∀ t, t < T → 0 ≤ f t ∧ f t ≤ 4611686018427387904) :
    ClosG 105 #[.pointer (some ⟨bv, 0, none⟩), .pointer (some ⟨bx, 0, none⟩)] T (fun t => if f t = infV then infV else max (f t - x) 0) w := by
  rintro ti t v w' rfl ht hv' hbw
  show Calls Try.prog 105 #[.int .i64 t, .pointer (some ⟨bv, 0, none⟩), .pointer (some ⟨bx, 0, none⟩)] w' (Drew (.int .i64 v) w')
  have c1 := (hbw.cell (lt_of_cell hv)).trans hv
  have c2 := (hbw.cell (lt_of_cell hx)).trans hx
  obtain ⟨y, hy⟩ : ∃ y, f t = y := ⟨_, rfl⟩
  have hB := hb t ht
  dsimp only at hv'
  rw [hy] at hB hv'
  have HC := Lib.hid (hcl.above hbw)
  have HY := Lib.hid hy
  obtain ⟨b1, b2⟩ := hB
  clear hv hx hcl hb hbw hy
  by_cases h1 : y = 4611686018427387904
  · subst h1
    rw [if_pos rfl] at hv'
    subst hv'
    go_enter Try.func105, Try.ntmps105
    go_wp2_with fail
    refine (HC.out _ t _ _ rfl ht HY.out (Below.refl _ _)).mono ?_
    rintro e w1 ⟨rfl, m, rfl⟩
    go_wp2_with fail
    go_ret
    exact ⟨rfl, m, rfl⟩
  · rw [if_neg h1] at hv'
    have t1 : (y != 4611686018427387904) = true := by simpa using h1
    have HV := Lib.hid hv'
    clear h1 hv'
    go_enter Try.func105, Try.ntmps105
    go_wp2_with fail
    refine (HC.out _ t _ _ rfl ht HY.out (Below.refl _ _)).mono ?_
    rintro e w1 ⟨rfl, m, rfl⟩
    go_wp2_with fail
    refine (greater_any (y - x) 0 _).mono ?_
    rintro e w2 ⟨rfl, rfl⟩
    rw [HV.out]
    go_wp2_with fail
    go_ret
    exact ⟨rfl, m, rfl⟩

set_option maxHeartbeats 800000 in
theorem later1_any {d : Nat} (hv : w.cell? ⟨bv, 0, none⟩ = some (.func (.func fid) #[] caps)) (hx : w.cell? ⟨bx, 0, none⟩ = some (.int .i64 d)) (eg : ∀ (args : Array Value) (w : World), (callFunc fid args).run Try.prog w = .ok (.enter fid args) w)
    (hcl : ClosG fid caps T f w) (hT : T ≤ 4194304) :
    ClosG 99 #[.pointer (some ⟨bx, 0, none⟩), .pointer (some ⟨bv, 0, none⟩)] T (fun t => if t < d then 0 else f (t - d)) w := by
  rintro ti t v w' rfl ht hv' hbw
  show Calls Try.prog 99 #[.int .i64 t, .pointer (some ⟨bx, 0, none⟩), .pointer (some ⟨bv, 0, none⟩)] w' (Drew (.int .i64 v) w')
  have c1 := (hbw.cell (lt_of_cell hv)).trans hv
  have c2 := (hbw.cell (lt_of_cell hx)).trans hx
  have HC := Lib.hid (hcl.above hbw)
  dsimp only at hv'
  clear hv hx hcl hbw
  by_cases hlt : t < d
  · rw [if_pos hlt] at hv'
    subst hv'
    have hl2 : (t : Int) < (d : Int) := by omega
    go_enter Try.func99, Try.ntmps99
    go_wp2_with fail
    go_ret
    exact ⟨rfl, 0, rfl⟩
  · rw [if_neg hlt] at hv'
    have HY := Lib.hid hv'
    have hl2 : ¬ (t : Int) < (d : Int) := by omega
    clear hv'
    go_enter Try.func99, Try.ntmps99
    go_wp2_with fail
    refine (HC.out _ (t - d) v _ (by omega) (by omega) HY.out (Below.refl _ _)).mono ?_
    rintro e w1 ⟨rfl, m, rfl⟩
    go_wp2_with fail
    go_ret
    exact ⟨rfl, m, rfl⟩

end

end Go.Proofs.Ythljhddnfflpjaa
