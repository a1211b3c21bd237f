/- The functions of package curve, and the document's, at whatever curve: one statement for both. By the verifier's side. -/
import Derived.Test.YtgdkjmmlgnmidaaRefO
namespace Go.Proofs.Ytgdkjmmlgnmidaa
open Go.RowKit
set_option linter.unusedSimpArgs false

theorem rowZ_nil (w : World) : RowZ w none 0 0 [] := ⟨rfl, Nat.le_refl _, Nat.zero_le _, by omega, fun i hi => absurd hi (Nat.not_lt_zero _), fun i hi => absurd hi (Nat.not_lt_zero _)⟩

/-- The normal form, or the zero curve. -/
def NormU (zs : List Int) (p inc : Int) (zs' : List Int) (p' inc' : Int) : Prop :=
  (∃ q q' : Nat, p = q ∧ p' = q' ∧ Good zs q inc ∧ NormC zs q inc zs' q' inc') ∨ (okC zs p inc = false ∧ zs' = [] ∧ p' = 0 ∧ inc' = 0)
theorem NormU.unique {zs xs ys : List Int} {p inc p1 i1 p2 i2 : Int} (h : NormU zs p inc xs p1 i1) (k : NormU zs p inc ys p2 i2) : xs = ys ∧ p1 = p2 ∧ i1 = i2 := by
  rcases h with ⟨q, q1, rfl, rfl, g, h⟩ | ⟨h0, rfl, rfl, rfl⟩
  · rcases k with ⟨q', q2, e, rfl, g', k⟩ | ⟨k0, _, _, _⟩
    · obtain rfl : q = q' := by omega
      obtain ⟨a, b, c⟩ := h.canon g g' k (fun _ => rfl)
      exact ⟨a, by omega, c⟩
    · rw [(okC_iff zs q inc).2 g] at k0; cases k0
  · rcases k with ⟨q', q2, rfl, rfl, g', k⟩ | ⟨_, rfl, rfl, rfl⟩
    · rw [(okC_iff zs q' inc).2 g'] at h0; cases h0
    · exact ⟨rfl, rfl, rfl⟩
/-- The start that a normal form has. -/
theorem NormU.start {zs xs : List Int} {p inc p1 i1 : Int} (h : NormU zs p inc xs p1 i1) : ∃ s : Nat, s ≤ 400 ∧ (xs.length : Int) = s + p1 := by
  rcases h with ⟨q, q1, rfl, rfl, g, h⟩ | ⟨_, rfl, rfl, rfl⟩
  · obtain ⟨b1, b2, b3, b4, b5, b6⟩ := norm_p3 g h
    exact ⟨xs.length - q1, by omega, by omega⟩
  · exact ⟨0, by omega, by simp⟩
def codeU (zs : List Int) (p inc : Int) : Int := if okC zs p inc then 0 else 1
theorem codeU_ok {zs : List Int} {p inc : Int} (h : okC zs p inc = true) : codeU zs p inc = 0 := by unfold codeU; rw [h]; rfl
theorem codeU_bad {zs : List Int} {p inc : Int} (h : okC zs p inc = false) : codeU zs p inc = 1 := by unfold codeU; rw [h]; rfl
def GivesU (zs : List Int) (p inc : Int) (w : World) (e : Ending) (w' : World) : Prop :=
  ∃ (a' : Option Addr) (n' cap' : Nat) (zs' : List Int) (p' inc' : Int), e = .returned (.tuple #[curV a' n' cap' p' inc', .int .i64 (codeU zs p inc)]) ∧ Below w.heap.size w w' ∧ RowZ w' a' n' cap' zs' ∧ NormU zs p inc zs' p' inc' ∧ (0 ≤ p' ∧ p' ≤ 120) ∧ (0 ≤ inc' ∧ inc' ≤ 1073741824)

/-- The slope. -/
def SlopeU (zs : List Int) (p inc x y : Int) (b : Bool) : Prop :=
  (finB zs p inc = false ∧ x = 0 ∧ y = 0 ∧ b = false) ∨ (∃ q : Nat, p = q ∧ Good zs q inc ∧ (¬ zs.getD (zs.length - 1) 0 = infV) ∧ newF inc q = (x, y, 0) ∧ b = true)
theorem slopeU_ex (zs : List Int) (p inc : Int) : ∃ x y b, SlopeU zs p inc x y b := by
  cases hf : finB zs p inc with
  | false => exact ⟨0, 0, false, .inl ⟨hf, rfl, rfl, rfl⟩⟩
  | true =>
    have hok : okC zs p inc = true := by
      unfold finB at hf; rw [Bool.and_eq_true] at hf; exact hf.1
    obtain ⟨q, rfl, g⟩ := okC_pos hok
    have hl : ¬ zs.getD (zs.length - 1) 0 = infV := fun hx => by rw [finB_inf hx] at hf; cases hf
    obtain ⟨x, y, hn, _⟩ := newF_slope g.p1 g.p2 g.i0 g.i1
    exact ⟨x, y, true, .inr ⟨q, rfl, g, hl, hn, rfl⟩⟩

/-- The value at a number, and the error's number. -/
def ValU (zs : List Int) (p inc t v c : Int) : Prop :=
  (okC zs p inc = false ∧ v = 0 ∧ c = 1) ∨ (∃ q : Nat, p = q ∧ Good zs q inc ∧ (t < 0 ∨ 1048576 < t) ∧ v = 0 ∧ c = 2) ∨ (∃ q k : Nat, p = q ∧ Good zs q inc ∧ t = k ∧ k ≤ 1048576 ∧ atC zs q inc k = v ∧ c = 0)
theorem valU_ex (zs : List Int) (p inc t : Int) : ∃ v c, ValU zs p inc t v c := by
  cases hok : okC zs p inc with
  | false => exact ⟨0, 1, .inl ⟨hok, rfl, rfl⟩⟩
  | true =>
    obtain ⟨q, rfl, g⟩ := okC_pos hok
    by_cases ht : t < 0 ∨ 1048576 < t
    · exact ⟨0, 2, .inr (.inl ⟨q, rfl, g, ht, rfl, rfl⟩)⟩
    · obtain ⟨k, rfl⟩ := Int.eq_ofNat_of_zero_le (show 0 ≤ t by omega)
      exact ⟨_, 0, .inr (.inr ⟨q, k, rfl, g, rfl, by omega, rfl, rfl⟩)⟩

/-- Whether two curves are the same function. -/
def EqU (zs : List Int) (p inc : Int) (ys : List Int) (q jnc : Int) (b : Bool) : Prop :=
  (okC zs p inc = false ∧ b = false) ∨ (okC zs p inc = true ∧ okC ys q jnc = false ∧ b = false) ∨ (∃ P Q : Nat, p = P ∧ q = Q ∧ Good zs P inc ∧ Good ys Q jnc ∧ (b = true ↔ ∀ t, atC zs P inc t = atC ys Q jnc t))
theorem eqU_ex (zs : List Int) (p inc : Int) (ys : List Int) (q jnc : Int) : ∃ b, EqU zs p inc ys q jnc b := by
  cases h1 : okC zs p inc with
  | false => exact ⟨false, .inl ⟨h1, rfl⟩⟩
  | true =>
    cases h2 : okC ys q jnc with
    | false => exact ⟨false, .inr (.inl ⟨h1, h2, rfl⟩)⟩
    | true =>
      obtain ⟨P, rfl, g⟩ := okC_pos h1
      obtain ⟨Q, rfl, k⟩ := okC_pos h2
      by_cases he : ∀ t, atC zs P inc t = atC ys Q jnc t
      · exact ⟨true, .inr (.inr ⟨P, Q, rfl, rfl, g, k, ⟨fun _ => he, fun _ => rfl⟩⟩)⟩
      · exact ⟨false, .inr (.inr ⟨P, Q, rfl, rfl, g, k, ⟨fun h => absurd h (by decide), fun h => absurd h he⟩⟩)⟩

theorem slope_u (a : Option Addr) (n cap : Nat) (zs : List Int) (p inc : Int) (hp : In64 p) (hi : In64 inc) (x y : Int) (b : Bool) (hs : SlopeU zs p inc x y b) (w : World) (h : RowZ w a n cap zs) :
    Calls Try.prog 29 #[curV a n cap p inc] w (Slopes x y b w) := by
  rcases hs with ⟨hf, rfl, rfl, rfl⟩ | ⟨q, rfl, g, hf, hn, rfl⟩
  · exact slope_no a n cap zs p inc hp hi hf w h
  · exact slope_ok a n cap zs q inc g hf x y hn w h

theorem value_u (a : Option Addr) (n cap : Nat) (zs : List Int) (p inc : Int) (hp : In64 p) (hi : In64 inc) (t v c : Int) (hv : ValU zs p inc t v c) (w : World) (h : RowZ w a n cap zs) :
    Calls Try.prog 41 #[curV a n cap p inc, .int .i64 t] w (Pair v c w) := by
  rcases hv with ⟨hok, rfl, rfl⟩ | ⟨q, rfl, g, ht, rfl, rfl⟩ | ⟨q, k, rfl, g, rfl, hk, hv, rfl⟩
  · exact value_bad a n cap zs p inc hp hi hok t w h
  · exact value_range a n cap zs q inc g t ht w h
  · exact value_at a n cap zs q inc g k k rfl hk v hv w h

theorem equal_u (a : Option Addr) (n cap : Nat) (zs : List Int) (p inc : Int) (hp : In64 p) (hi : In64 inc) (a2 : Option Addr) (n2 cap2 : Nat) (ys : List Int) (q jnc : Int) (hq : In64 q) (hj : In64 jnc) (b : Bool) (hb : EqU zs p inc ys q jnc b) (w : World) (h : RowZ w a n cap zs) (h2 : RowZ w a2 n2 cap2 ys) :
    Calls Try.prog 26 #[curV a n cap p inc, curV a2 n2 cap2 q jnc] w (Says (.bool b) w) := by
  rcases hb with ⟨h1, rfl⟩ | ⟨h1, h3, rfl⟩ | ⟨P, Q, rfl, rfl, g, k, hb⟩
  · exact equal_bad1 a n cap zs p inc hp hi h1 a2 n2 cap2 ys q jnc hq hj w h h2
  · exact equal_bad2 a n cap zs p inc hp hi h1 a2 n2 cap2 ys q jnc hq hj h3 w h h2
  · refine (equal_ok a n cap zs P inc g a2 n2 cap2 ys Q jnc k w h h2).mono ?_
    rintro e w1 ⟨b', hb', rfl, hbw⟩
    exact ⟨by rw [Bool.eq_iff_iff.2 (hb'.trans hb.symm)], hbw⟩

set_option maxHeartbeats 400000 in
theorem small_any (a : Option Addr) (n cap : Nat) (p inc : Int) (b : Bool) (hb : decide (n ≤ 800) = b) (w : World) :
    Calls Try.prog 9 #[curV a n cap p inc] w (Says (.bool b) w) := by
  have HB := Lib.hid hb
  clear hb
  by_cases h : n ≤ 800
  · obtain rfl : b = true := by rw [← HB.out]; exact decide_eq_true h
    have h1 : (n : Int) ≤ 800 := by omega
    clear h
    go_enter Try.func9, Try.ntmps9
    go_wp2_with fail
    go_ret
    exact ⟨rfl, box_below _ _⟩
  · obtain rfl : b = false := by rw [← HB.out]; exact decide_eq_false h
    have h1 : ¬ (n : Int) ≤ 800 := by omega
    have h2 : decide ((n : Int) ≤ 800) = false := by simp; omega
    clear h
    go_enter Try.func9, Try.ntmps9
    go_wp2_with fail
    go_ret
    exact ⟨rfl, box_below _ _⟩

end Go.Proofs.Ytgdkjmmlgnmidaa
