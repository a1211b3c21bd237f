/- The mathematics of RemainderLeast: the least curve that covers what is left, and that a sum with it is a curve. By the verifier's side. -/
import Derived.Test.YtcbocglakielnaaRR56M
namespace Go.Proofs.Ytcbocglakielnaa

theorem osub_adj {a b c : Option Int} (hc : ∀ y, c = some y → 0 ≤ y) : ole (osub a b) c ↔ ole a (oadd c b) := by
  cases b with
  | none => rw [osub_r, oadd_none_r]; exact ⟨fun _ => ole_none a, fun _ y hy => ⟨0, rfl, hc y hy⟩⟩
  | some z =>
    cases c with
    | none => rw [oadd_none_l]; exact ⟨fun _ => ole_none a, fun _ => ole_none _⟩
    | some y =>
      have h0 := hc y rfl
      cases a with
      | none =>
        constructor
        · intro h; obtain ⟨x, hx, _⟩ := h y rfl; cases hx
        · intro h; obtain ⟨x, hx, _⟩ := h (y + z) rfl; cases hx
      | some x =>
        constructor
        · intro h
          obtain ⟨u, hu, hl⟩ := h y rfl
          have e : max 0 (x - z) = u := Option.some.inj hu
          intro v hv
          have e2 : y + z = v := Option.some.inj hv
          exact ⟨x, rfl, by omega⟩
        · intro h
          obtain ⟨u, hu, hl⟩ := h (y + z) rfl
          have e : x = u := Option.some.inj hu
          intro v hv
          have e2 : y = v := Option.some.inj hv
          exact ⟨max 0 (x - z), rfl, by omega⟩

/-- The rest is at most h exactly if f is at most the sum of h and g. -/
theorem rest_adj {zf zg zh : List Int} {pf pg ph : Nat} {jf jg jh : Int} (gh : Good zh ph jh) :
    (∀ t, ole (eRest zf pf jf zg pg jg t) (eC zh ph jh t)) ↔ ∀ t, ole (eC zf pf jf t) (oadd (eC zh ph jh t) (eC zg pg jg t)) := by
  have hn : ∀ t y, eC zh ph jh t = some y → 0 ≤ y := fun t y h => (eC_bd gh h).1
  constructor
  · intro h t
    exact (osub_adj (hn t)).1 (ole_trans (maxO_at (eDif zf pf jf zg pg jg) t) (h t))
  · intro h
    refine maxO_least (fun t y hy => ?_) fun t => (osub_adj (hn t)).2 (h t)
    cases h1 : eC zh ph jh t with
    | none => rw [eC_up gh h1] at hy; cases hy
    | some x => exact ⟨x, rfl, eC_mono gh h1 hy⟩

section
variable {F G : Nat → Int} {a b D : Int}
/-- The numbers' greatest difference so far repeats from soon on, if the differences grow. -/
theorem rmax_grow (hF : Per F 5 12 a) (hG : Per G 5 12 b) (hm : ∀ t, F t ≤ F (t + 1)) (hF0 : 0 ≤ F 0) (hGn : ∀ t, 0 ≤ G t) (hG5 : G 5 ≤ 48) (hD : a - b = D) (hD1 : 1 ≤ D) {K : Nat} (hK1 : 1 ≤ K) (hK : 48 ≤ (K : Int) * D) :
    Per (rmax fun t => max 0 (F t - G t)) (5 + K * 12) 12 D := by
  have he : Per (fun t => F t - G t) 5 12 D := fun t ht => by have := hF t ht; have := hG t ht; show F (t + 12) - G (t + 12) = F t - G t + D; omega
  have hmono : ∀ k t, F t ≤ F (t + k) := fun k => by
    induction k with
    | zero => intro t; exact Int.le_refl _
    | succ k ih => intro t; have := ih t; have := hm (t + k); show _ ≤ F (t + k + 1); omega
  intro t ht
  have hge : ∀ s u, s ≤ u → F s - G s ≤ rmax (fun t => max 0 (F t - G t)) u := fun s u h => by
    have := rmax_ge (fun t => max 0 (F t - G t)) h
    have e : max 0 (F s - G s) ≤ rmax (fun t => max 0 (F t - G t)) u := this
    omega
  have h0 : 0 ≤ rmax (fun t => max 0 (F t - G t)) t := by
    have : max 0 (F 0 - G 0) ≤ rmax (fun t => max 0 (F t - G t)) t := rmax_ge (fun t => max 0 (F t - G t)) (Nat.zero_le t)
    omega
  have hup : rmax (fun t => max 0 (F t - G t)) (t + 12) ≤ rmax (fun t => max 0 (F t - G t)) t + D := by
    obtain ⟨s, hs, e⟩ := rmax_found (fun t => max 0 (F t - G t)) (t + 12)
    have e' : max 0 (F s - G s) = rmax (fun t => max 0 (F t - G t)) (t + 12) := e
    by_cases hst : s ≤ t
    · have := hge s t hst; omega
    · have h1 := he (s - 12) (by omega)
      have h1' : F (s - 12 + 12) - G (s - 12 + 12) = F (s - 12) - G (s - 12) + D := h1
      rw [show s - 12 + 12 = s by omega] at h1'
      have := hge (s - 12) t (by omega)
      omega
  have hlow : rmax (fun t => max 0 (F t - G t)) t + D ≤ rmax (fun t => max 0 (F t - G t)) (t + 12) := by
    obtain ⟨s, hs, e⟩ := rmax_found (fun t => max 0 (F t - G t)) t
    have e' : max 0 (F s - G s) = rmax (fun t => max 0 (F t - G t)) t := e
    have hk := he.mul K 5 (Nat.le_refl _)
    have hk' : F (5 + K * 12) - G (5 + K * 12) = F 5 - G 5 + (K : Int) * D := hk
    have h5 := he (5 + K * 12) (by omega)
    have h5' : F (5 + K * 12 + 12) - G (5 + K * 12 + 12) = F (5 + K * 12) - G (5 + K * 12) + D := h5
    have hg := hge (5 + K * 12 + 12) (t + 12) (by omega)
    by_cases hs5 : 5 ≤ s ∧ 0 ≤ F s - G s
    · have h1 := he s hs5.1
      have h1' : F (s + 12) - G (s + 12) = F s - G s + D := h1
      have := hge (s + 12) (t + 12) (by omega)
      omega
    · have h6 : rmax (fun t => max 0 (F t - G t)) t ≤ F 5 := by
        have h7 := hmono 5 0
        rw [Nat.zero_add] at h7
        by_cases h8 : 0 ≤ F s - G s
        · have h9 := hmono (5 - s) s
          rw [show s + (5 - s) = 5 by omega] at h9
          have := hGn s
          omega
        · omega
      omega
  omega
/-- If they don't grow, it rests. -/
theorem rmax_rest (hF : Per F 5 12 a) (hG : Per G 5 12 b) (hD : a - b ≤ 0) : Per (rmax fun t => max 0 (F t - G t)) 17 12 0 := by
  intro t ht
  have h1 := rmax_mono (fun t => max 0 (F t - G t)) t 12
  have hge : ∀ s u, s ≤ u → max 0 (F s - G s) ≤ rmax (fun t => max 0 (F t - G t)) u := fun s u h => rmax_ge (fun t => max 0 (F t - G t)) h
  obtain ⟨s, hs, e⟩ := rmax_found (fun t => max 0 (F t - G t)) (t + 12)
  have e' : max 0 (F s - G s) = rmax (fun t => max 0 (F t - G t)) (t + 12) := e
  by_cases hst : s ≤ t
  · have := hge s t hst; omega
  · have h2 := hF (s - 12) (by omega)
    have h3 := hG (s - 12) (by omega)
    rw [show s - 12 + 12 = s by omega] at h2 h3
    have := hge (s - 12) t (by omega)
    omega
end

/-- A finite curve that repeats by 12 ticks from tick 5 on, and grows slowly. -/
structure LowC (zs : List Int) (p : Nat) (inc : Int) : Prop where
  good : Good zs p inc
  fin : ¬ InfC zs
  zero : atC zs p inc 0 = 0
  slow : ∀ t, atC zs p inc t ≤ 3 + 9 * (t : Int)
  per : ∃ c, Per (atC zs p inc) 5 12 c

theorem rest_fin {zf zg : List Int} {pf pg : Nat} {jf jg : Int} (f1 : ¬ InfC zf) (f2 : ¬ InfC zg) (t : Nat) : eRest zf pf jf zg pg jg t = some (rmax (fun t => max 0 (atC zf pf jf t - atC zg pg jg t)) t) :=
  maxO_rmax (fun t => eDif_fin f1 f2 t) t

/-- The rest of two such curves repeats by 12 ticks from a tick on that leaves room. -/
theorem rest_soon {zf zg zr : List Int} {pf pg pr : Nat} {jf jg jr : Int} (hf : LowC zf pf jf) (hg : LowC zg pg jg) (hr : EForm zr pr jr (eRest zf pf jf zg pg jg)) : ∃ s c, 5 ≤ s ∧ s ≤ 388 ∧ Per (atC zr pr jr) s 12 c := by
  obtain ⟨a, ha⟩ := hf.per
  obtain ⟨b, hb⟩ := hg.per
  have hv : atC zr pr jr = rmax (fun t => max 0 (atC zf pf jf t - atC zg pg jg t)) := funext fun t => by
    have := hr.2.1 t
    rw [rest_fin hf.fin hg.fin t] at this
    exact (eC_bd hr.1 this).2.2
  have nn : ∀ t, 0 ≤ atC zg pg jg t := fun t => (eC_bd hg.good (eC_fin hg.fin pg jg t)).1
  have h48 := hg.slow 5
  have hf0 : 0 ≤ atC zf pf jf 0 := by rw [hf.zero]; omega
  by_cases h : 1 ≤ a - b
  · by_cases h2 : 2 ≤ a - b
    · have := rmax_grow (K := 24) ha hb hf.good.step hf0 nn (by omega) rfl (by omega) (by omega) (by omega)
      rw [← hv] at this
      exact ⟨293, _, by omega, by omega, this⟩
    · have h1 : a - b = 1 := by omega
      have := rmax_grow (K := 48) ha hb hf.good.step hf0 nn (by omega) h1 (by omega) (by omega) (by omega)
      rw [← hv] at this
      obtain ⟨g, he, s, hs, hn⟩ := hr
      obtain ⟨d1, d2⟩ := hn.divides this
      have hp1 := g.p1
      have hp12 : pr = 12 := by
        have hdm := Nat.div_add_mod 12 pr
        rw [d1] at hdm
        obtain ⟨q, hq⟩ : ∃ q, 12 / pr = q := ⟨_, rfl⟩
        rw [hq] at d2 hdm
        have hj := g.i0
        have hq1 : q = 1 := by
          by_cases h3 : q ≤ 1
          · by_cases h4 : q = 0
            · subst h4; simp at d2
            · omega
          · exfalso
            by_cases h5 : jr < 1
            · have : jr = 0 := by omega
              rw [this] at d2; simp at d2
            · have := Int.mul_le_mul (show (2 : Int) ≤ (q : Int) by omega) (show (1 : Int) ≤ jr by omega) (by omega) (by omega)
              omega
        subst hq1
        omega
      subst hp12
      have hl := g.few
      have hper := hn.per
      by_cases h5 : 5 ≤ s
      · exact ⟨s, jr, h5, by omega, hper⟩
      · exact ⟨5, jr, by omega, by omega, hper.mono (by omega)⟩
  · have := rmax_rest ha hb (by omega)
    rw [← hv] at this
    exact ⟨17, _, by omega, by omega, this⟩

/-- A sum of two finite curves that repeat by 12 ticks, with room, is a curve. -/
theorem sum_soon {E : Nat → Option Int} {F G : Nat → Int} (hE : ∀ t, E t = some (F t + G t)) {s : Nat} {c b : Int} (hF : Per F s 12 c) (hG : Per G 5 12 b) (h5 : 5 ≤ s) (h388 : s ≤ 388) (mF : ∀ t, F t ≤ F (t + 1)) (mG : ∀ t, G t ≤ G (t + 1)) (F0 : 0 ≤ F 0) (G0 : 0 ≤ G 0)
    (bF : ∀ t, t ≤ 412 → F t ≤ 10000) (bG : ∀ t, t ≤ 412 → G t ≤ 10000) : ECan E := by
  have nF : ∀ t, 0 ≤ F t := fun t => by
    induction t with
    | zero => exact F0
    | succ t ih => have := mF t; omega
  have nG : ∀ t, 0 ≤ G t := fun t => by
    induction t with
    | zero => exact G0
    | succ t ih => have := mG t; omega
  have hP : Per (fun t => F t + G t) s 12 (c + b) := fun t ht => by have := hF t ht; have := hG t (by omega); show F (t + 12) + G (t + 12) = F t + G t + (c + b); omega
  refine can_fin (F := fun t => F t + G t) hE hP (by omega) (by omega) (by omega) ?_ (fun t _ => ?_) ?_ ?_
  · show 0 ≤ F 0 + G 0; omega
  · show F t + G t ≤ F (t + 1) + G (t + 1); have := mF t; have := mG t; omega
  · show F (s + 12 - 1) + G (s + 12 - 1) ≤ _; have := bF (s + 12 - 1) (by omega); have := bG (s + 12 - 1) (by omega); omega
  · have := hF s (Nat.le_refl _); have := hG s h5; have := bF (s + 12) (by omega); have := bG (s + 12) (by omega); have := nF s; have := nG s; omega

theorem low_sum {zh zg : List Int} {ph pg : Nat} {jh jg : Int} (hh : LowC zh ph jh) (hg : LowC zg pg jg) : ECan (eSum zh ph jh zg pg jg) := by
  obtain ⟨a, ha⟩ := hh.per
  obtain ⟨b, hb⟩ := hg.per
  refine sum_soon (F := atC zh ph jh) (G := atC zg pg jg) (fun t => ?_) ha hb (by omega) (by omega) hh.good.step hg.good.step (by rw [hh.zero]; omega) (by rw [hg.zero]; omega) (fun t ht => by have := hh.slow t; omega) fun t ht => by have := hg.slow t; omega
  unfold eSum; rw [eC_fin hh.fin, eC_fin hg.fin]; rfl

/-- The raised rest, and g: their sum is a curve. -/
theorem raised_sum {zf zg zr zv : List Int} {pf pg pr pv : Nat} {jf jg jr jv : Int} (hf : LowC zf pf jf) (hg : LowC zg pg jg) (hr : EForm zr pr jr (eRest zf pf jf zg pg jg)) {ci : Int} (h0 : 0 ≤ ci) (h2 : ci ≤ 2) (hv : EForm zv pv jv (eRaise ci zr pr jr)) : ECan (eSum zv pv jv zg pg jg) := by
  obtain ⟨s, c, h5, h388, hp⟩ := rest_soon hf hg hr
  obtain ⟨b, hb⟩ := hg.per
  have hfr : ∀ t, eC zr pr jr t = some (atC zr pr jr t) := fun t => by
    have := hr.2.1 t
    rw [rest_fin hf.fin hg.fin t] at this
    rw [this, (eC_bd hr.1 this).2.2]
  have hvv : ∀ t, eC zv pv jv t = some (if t = 0 then 0 else atC zr pr jr t + ci) := fun t => by
    rw [hv.2.1 t]; unfold eRaise
    by_cases h : t = 0
    · rw [if_pos h, if_pos h]
    · rw [if_neg h, if_neg h, hfr t]; rfl
  have hr0 : 0 ≤ atC zr pr jr 0 := (eC_bd hr.1 (hfr 0)).1
  have hrb : ∀ t, atC zr pr jr t ≤ 3 + 9 * (t : Int) := fun t => by
    have e := hr.2.1 t
    rw [rest_fin hf.fin hg.fin t] at e
    rw [(eC_bd hr.1 e).2.2]
    obtain ⟨u, hu, e2⟩ := rmax_found (fun t => max 0 (atC zf pf jf t - atC zg pg jg t)) t
    have e3 : max 0 (atC zf pf jf u - atC zg pg jg u) = rmax (fun t => max 0 (atC zf pf jf t - atC zg pg jg t)) t := e2
    have := hf.slow u
    have := (eC_bd hg.good (eC_fin hg.fin pg jg u)).1
    omega
  refine sum_soon (F := fun t => if t = 0 then 0 else atC zr pr jr t + ci) (G := atC zg pg jg) (fun t => ?_) (s := s) (c := c) (fun t ht => ?_) hb h5 h388 (fun t => ?_) hg.good.step (by rw [if_pos rfl]; omega) (by rw [hg.zero]; omega) (fun t ht => ?_) fun t ht => by have := hg.slow t; omega
  · unfold eSum; rw [hvv t, eC_fin hg.fin]; rfl
  · show (if t + 12 = 0 then 0 else atC zr pr jr (t + 12) + ci) = (if t = 0 then 0 else atC zr pr jr t + ci) + c
    rw [if_neg (by omega), if_neg (by omega), hp t ht]; omega
  · show (if t = 0 then 0 else atC zr pr jr t + ci) ≤ if t + 1 = 0 then 0 else atC zr pr jr (t + 1) + ci
    rw [if_neg (show ¬ t + 1 = 0 by omega)]
    have h1 := hr.1.step t
    by_cases h : t = 0
    · subst h; rw [if_pos rfl]; omega
    · rw [if_neg h]; omega
  · show (if t = 0 then 0 else atC zr pr jr t + ci) ≤ 10000
    by_cases h : t = 0
    · rw [if_pos h]; omega
    · rw [if_neg h]; have := hrb t; omega

end Go.Proofs.Ytcbocglakielnaa
