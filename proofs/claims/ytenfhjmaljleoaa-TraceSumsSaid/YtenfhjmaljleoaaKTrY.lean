/- The sums of two traces and of their merged one. By the verifier's side. -/
import Derived.Test.YtenfhjmaljleoaaKTrX
import Derived.Test.YtenfhjmaljleoaaKTrT
namespace Go.Proofs.Ytenfhjmaljleoaa
open Go.RowKit
set_option linter.unusedSimpArgs false
set_option linter.unusedVariables false

theorem sel_minus (l : List Pk) : sel (-1) l = l := by
  unfold sel; exact List.filter_eq_self.2 (fun q _ => by unfold ofFlow; simp)
theorem sel_cons (fl : Int) (h : 0 ≤ fl) (q : Pk) (r : List Pk) : sel fl (q :: r) = if q.f = fl then q :: sel fl r else sel fl r := by
  unfold sel
  rw [List.filter_cons]
  have e : ofFlow fl q = decide (q.f = fl) := by unfold ofFlow; rw [decide_eq_true (show -1 ≤ fl by omega), decide_eq_false (show ¬ fl = -1 by omega)]; rfl
  rw [e]; by_cases c : q.f = fl <;> simp [c]
theorem bytT_split (t : Int) : ∀ l : List Pk, (∀ q ∈ l, 0 ≤ q.f ∧ q.f ≤ 2) → sumG (bytT t) (sel 0 l) + sumG (bytT t) (sel 1 l) + sumG (bytT t) (sel 2 l) = sumG (bytT t) l
  | [], _ => rfl
  | q :: r, h => by
    have ih := bytT_split t r (fun x hx => h x (List.mem_cons_of_mem _ hx))
    obtain ⟨h0, h2⟩ := h q (List.mem_cons_self ..)
    rw [sel_cons 0 (by omega), sel_cons 1 (by omega), sel_cons 2 (by omega)]
    show _ = bytT t q + sumG (bytT t) r
    by_cases e0 : q.f = 0
    · rw [if_pos e0, if_neg (by omega), if_neg (by omega)]
      show bytT t q + sumG (bytT t) (sel 0 r) + _ + _ = _
      omega
    · by_cases e1 : q.f = 1
      · rw [if_neg e0, if_pos e1, if_neg (by omega)]
        show _ + (bytT t q + sumG (bytT t) (sel 1 r)) + _ = _
        omega
      · rw [if_neg e0, if_neg e1, if_pos (by omega)]
        show _ + _ + (bytT t q + sumG (bytT t) (sel 2 r)) = _
        omega
theorem bytT_mono {l : List Pk} (h : ∀ q ∈ l, okP q = true) {s t : Int} (hst : s ≤ t) : sumG (bytT s) l ≤ sumG (bytT t) l :=
  sumG_mono _ _ l fun q hq => by
    have := (okP_iff q).1 (h q hq)
    unfold bytT; split <;> split <;> omega
theorem bytT_zero {l : List Pk} (h : ∀ q ∈ l, okP q = true) : sumG (bytT ((0 : Nat) : Int)) l = 0 := by
  rw [sumG_congr (bytT ((0 : Nat) : Int)) (fun _ => 0) l (fun q hq => by have := (okP_iff q).1 (h q hq); unfold bytT; rw [if_neg (by omega)]), sumG_zero]
theorem cumC_ok {l : List Pk} {fl : Int} (hv : vcode l = 0) (hf : -1 ≤ fl) : cumC fl 100 l = 0 := by
  unfold cumC; rw [if_pos hv, if_neg (by omega)]
theorem cumL_ok {l : List Pk} {fl : Int} (hv : vcode l = 0) (hf : -1 ≤ fl) : cumL fl 100 l = sumsL fl 101 l := by
  unfold cumL; rw [if_pos (cumC_ok hv hf)]; rfl
/-- The sums of the first flows. -/
def upto (l : List Pk) : Nat → Nat → Int
  | 0, _ => 0
  | m + 1, k => upto l m k + sumG (bytT (k : Int)) (sel (m : Int) l)
theorem sel_okP {l : List Pk} (h : ∀ q ∈ l, okP q = true) (fl : Int) : ∀ q ∈ sel fl l, okP q = true := fun q hq => h q (List.mem_filter.1 hq).1
theorem part_bd {l : List Pk} (hv : vcode l = 0) (fl : Int) (k : Int) : 0 ≤ sumG (bytT k) (sel fl l) ∧ sumG (bytT k) (sel fl l) ≤ 90000 :=
  byt_bd (sel_okP (vcode_ok hv).2.1 fl) (Nat.le_trans (sel_le fl l) (vcode_ok hv).1) k
theorem upto_bd {l : List Pk} (hv : vcode l = 0) : ∀ m k : Nat, 0 ≤ upto l m k ∧ upto l m k ≤ 90000 * (m : Int)
  | 0, k => ⟨Int.le_refl _, by unfold upto; omega⟩
  | m + 1, k => by
    have h1 := upto_bd hv m k
    have h2 := part_bd hv (m : Int) (k : Int)
    unfold upto
    omega
theorem upto_three {l : List Pk} (h : ∀ q ∈ l, 0 ≤ q.f ∧ q.f ≤ 2) (k : Nat) : upto l 3 k = sumG (bytT (k : Int)) l := by
  rw [← bytT_split (k : Int) l h]
  show 0 + sumG (bytT (k : Int)) (sel ((0 : Nat) : Int) l) + sumG (bytT (k : Int)) (sel ((1 : Nat) : Int) l) + sumG (bytT (k : Int)) (sel ((2 : Nat) : Int) l) = _
  rw [Int.zero_add]; rfl
/-- Two drawn traces and the merged one. -/
structure Mrg (lp lq lm : List Pk) : Prop where
  p : vcode lp = 0
  q : vcode lq = 0
  m : vcode lm = 0
  f : ∀ x ∈ lm, 0 ≤ x.f ∧ x.f ≤ 2
  s : ∀ t : Int, sumG (bytT t) lm = sumG (bytT t) lp + sumG (bytT t) lq
theorem Drwn.okP {N : Nat} {l : List Pk} (h : Drwn N l) (hN : N ≤ 60) : ∀ q ∈ l, okP q = true := (vcode_ok (h.vcode hN)).2.1
theorem Drwn.merged {N : Nat} {lp lq : List Pk} (hp : Drwn N lp) (hq : Drwn N lq) (hN : N ≤ 30) : Mrg lp lq (isort (lp ++ lq)) :=
  ⟨hp.vcode (by omega), hq.vcode (by omega),
    vcode_of (by rw [isort_length, List.length_append]; have := hp.len; have := hq.len; omega) (fun x hx => by
      rcases List.mem_append.1 ((mem_isort x _).1 hx) with c | c
      · exact hp.okP (by omega) x c
      · exact hq.okP (by omega) x c) (isort_asc _),
    fun x hx => by
      rcases List.mem_append.1 ((mem_isort x _).1 hx) with c | c
      · have := hp.ok x c; omega
      · have := hq.ok x c; omega,
    fun t => by rw [sumG_isort, sumG_append]⟩
theorem Drwn.mcode {N : Nat} {lp lq : List Pk} (hp : Drwn N lp) (hq : Drwn N lq) (hN : N ≤ 30) : mcode lp lq = 0 ∧ mergeL lp lq = isort (lp ++ lq) := by
  have h : Go.Proofs.Ytenfhjmaljleoaa.mcode lp lq = 0 := by
    unfold Go.Proofs.Ytenfhjmaljleoaa.mcode
    rw [if_pos (hp.vcode (by omega)), if_pos (hq.vcode (by omega)), if_neg (by have := hp.len; have := hq.len; omega)]
  exact ⟨h, by unfold mergeL; rw [if_pos h]⟩
theorem rowZ_apart13 {w w' : World} {a : Option Addr} {n cap b : Nat} {zs : List Int} (h : RowZ w a n cap zs) (ha : Apart b w w') (hx : ∀ x, a = some x → ¬ x.block = b) : RowZ w' a n cap zs :=
  ⟨h.len, h.le, h.sm, h.cm, fun i hi => by
    obtain ⟨x, h1, h2⟩ := h.cell i hi
    refine ⟨x, h1, ?_⟩
    have hlt := lt_of_cell h2
    have e : (x.add i).block = x.block := by unfold Addr.add; split <;> rfl
    exact (World.cell?_of_block (w := w) (a := x.add i) (ha.block _ hlt (by rw [e]; exact hx x h1))).trans h2, h.bd⟩
/-- The sums that a list of a trace shows. -/
theorem RowZ.sums {w : World} {a : Option Addr} {n cap : Nat} {fl : Int} {l : List Pk} (h : RowZ w a n cap (sumsL fl 101 l)) : n = 101 := by
  rw [← h.len, sumsL_len]
theorem RowZ.sum {w : World} {a : Option Addr} {cap : Nat} {fl : Int} {l : List Pk} (h : RowZ w a 101 cap (sumsL fl 101 l)) {k : Nat} (hk : k < 101) : ∃ x, a = some x ∧ w.cell? (x.add k) = some (.int .i64 (sumG (bytT (k : Int)) (sel fl l))) := by
  obtain ⟨x, h1, h2⟩ := h.cell k hk
  exact ⟨x, h1, by rw [h2, sumsL_at fl 101 l hk]⟩

end Go.Proofs.Ytenfhjmaljleoaa
