/- Which curves there are of small ones: delays, sums, multiples; and what the operations undo. Nothing here speaks of the program. By the verifier's side. -/
import Derived.Test.YtbaboncanplikaaPwO
namespace Go.Proofs.Ytbaboncanplikaa

/-- A finite curve that is short and small. -/
structure Tiny (zs : List Int) (p : Nat) (inc : Int) : Prop where
  good : Good zs p inc
  fin : ¬ InfC zs
  len : zs.length ≤ 16
  p8 : p ≤ 8
  i3 : inc ≤ 1000
  up : ∀ t : Nat, atC zs p inc t ≤ 10000 + 1000 * (t : Int)

theorem tiny_of {zs : List Int} {p : Nat} {inc : Int} (g : Good zs p inc) (hf : ¬ InfC zs) (h1 : zs.length ≤ 16) (h2 : p ≤ 8) (h3 : inc ≤ 1000) (h4 : ∀ i, i < zs.length → zs.getD i 0 ≤ 10000 ∨ zs.getD i 0 = infV) : Tiny zs p inc := by
  refine ⟨g, hf, h1, h2, h3, fun t => ?_⟩
  have hp := g.p3; have hp1 := g.p1
  induction t using Nat.strongRecOn with
  | ind t ih =>
    by_cases hlt : t < zs.length
    · rw [atC_lt hlt]
      rcases h4 t hlt with h | h
      · omega
      · have := g.small hf hlt; rw [h] at this; unfold infV at this; omega
    · have e := g.per hf (t - p) (by omega)
      have := ih (t - p) (by omega)
      rw [show t - p + p = t by omega] at e
      omega

theorem raise_can {zs : List Int} {p : Nat} {inc : Int} (h : Tiny zs p inc) {c : Int} (h0 : 0 ≤ c) (h1 : c ≤ 1000) : ECan (eRaise c zs p inc) := by
  have g := h.good
  have a1 := g.p1; have a2 := g.p3; have a3 := h.len; have a4 := h.p8; have a5 := h.i3
  refine can_fin (F := fun t => if t = 0 then 0 else atC zs p inc t + c) (s := zs.length - p + 1) (p := p) (c := inc) (fun t => ?_) (fun t ht => ?_) a1 (by omega) (by omega) ?_ (fun t ht => ?_) ?_ (by omega)
  · unfold eRaise
    by_cases ht : t = 0
    · rw [if_pos ht, if_pos ht]
    · rw [if_neg ht, if_neg ht, eC_fin h.fin]; rfl
  · show (if t + p = 0 then 0 else atC zs p inc (t + p) + c) = (if t = 0 then 0 else atC zs p inc t + c) + inc
    rw [if_neg (by omega), if_neg (by omega), g.per h.fin t (by omega)]; omega
  · show (0 : Int) ≤ if 0 = 0 then 0 else _
    rw [if_pos rfl]; omega
  · show (if t = 0 then 0 else atC zs p inc t + c) ≤ if t + 1 = 0 then 0 else atC zs p inc (t + 1) + c
    rw [if_neg (show ¬ t + 1 = 0 by omega)]
    split
    · have := (g.bd h.fin (t + 1)).1; omega
    · have := g.step t; omega
  · show (if zs.length - p + 1 + p - 1 = 0 then 0 else atC zs p inc (zs.length - p + 1 + p - 1) + c) ≤ 1073741824
    rw [if_neg (by omega)]
    have := h.up (zs.length - p + 1 + p - 1)
    omega

theorem later_can {zs : List Int} {p : Nat} {inc : Int} (h : Tiny zs p inc) {d : Nat} (hd : d ≤ 100) : ECan (eLater d zs p inc) := by
  have g := h.good
  have a1 := g.p1; have a2 := g.p3; have a3 := h.len; have a4 := h.p8; have a5 := h.i3
  refine can_fin (F := fun t => if t < d then 0 else atC zs p inc (t - d)) (s := zs.length - p + d) (p := p) (c := inc) (fun t => ?_) (fun t ht => ?_) a1 (by omega) (by omega) ?_ (fun t ht => ?_) ?_ (by omega)
  · unfold eLater
    by_cases ht : t < d
    · rw [if_pos ht, if_pos ht]
    · rw [if_neg ht, if_neg ht, eC_fin h.fin]
  · show (if t + p < d then 0 else atC zs p inc (t + p - d)) = (if t < d then 0 else atC zs p inc (t - d)) + inc
    rw [if_neg (by omega), if_neg (by omega), show t + p - d = t - d + p by omega, g.per h.fin (t - d) (by omega)]
  · show (0 : Int) ≤ if 0 < d then 0 else atC zs p inc (0 - d)
    split
    · omega
    · exact (g.bd h.fin _).1
  · show (if t < d then 0 else atC zs p inc (t - d)) ≤ if t + 1 < d then 0 else atC zs p inc (t + 1 - d)
    by_cases h1 : t + 1 < d
    · rw [if_pos (by omega), if_pos h1]; omega
    · rw [if_neg h1]
      by_cases h2 : t < d
      · rw [if_pos h2]; exact (g.bd h.fin _).1
      · rw [if_neg h2, show t + 1 - d = t - d + 1 by omega]; exact g.step _
  · show (if zs.length - p + d + p - 1 < d then 0 else atC zs p inc (zs.length - p + d + p - 1 - d)) ≤ 1073741824
    rw [if_neg (by omega)]
    have := h.up (zs.length - p + d + p - 1 - d)
    omega

theorem self_can {zs : List Int} {p : Nat} {inc : Int} (g : Good zs p inc) : ECan (eC zs p inc) := ⟨zs, p, inc, g, fun _ => rfl⟩

theorem lower_raise {zs za : List Int} {p pa : Nat} {inc ia c : Int} (g : Good zs p inc) (hf : ¬ InfC zs) (h0 : zs.getD 0 0 = 0) (hc : 0 ≤ c) (he : ∀ t, eC za pa ia t = eRaise c zs p inc t) : eLower c za pa ia = eC zs p inc := by
  funext t
  have a1 := g.p1; have a2 := g.p3
  unfold eLower
  rw [he t]
  unfold eRaise
  rw [eC_fin hf]
  by_cases ht : t = 0
  · rw [if_pos ht, ht, atC_lt (by omega), h0]
    show some (max (0 - c) 0) = some 0
    rw [show max (0 - c) 0 = 0 by omega]
  · rw [if_neg ht]
    show some (max (atC zs p inc t + c - c) 0) = some (atC zs p inc t)
    have := (g.bd hf t).1
    rw [show max (atC zs p inc t + c - c) 0 = atC zs p inc t by omega]

theorem ahead_later {zs za : List Int} {p pa : Nat} {inc ia : Int} (g : Good zs p inc) (hf : ¬ InfC zs) (h0 : zs.getD 0 0 = 0) {d : Nat} (he : ∀ t, eC za pa ia t = eLater d zs p inc t) : eAhead d za pa ia = eC zs p inc := by
  funext t
  have a1 := g.p1; have a2 := g.p3
  unfold eAhead
  by_cases ht : t = 0
  · rw [if_pos ht, ht, eC_fin hf, atC_lt (by omega), h0]
  · rw [if_neg ht, he]
    unfold eLater
    rw [if_neg (by omega), show t + d - d = t by omega]

theorem later_later {zs za : List Int} {p pa : Nat} {inc ia : Int} {d m : Nat} (he : ∀ t, eC za pa ia t = eLater d zs p inc t) : eLater m za pa ia = eLater (d + m) zs p inc := by
  funext t
  unfold eLater
  by_cases h1 : t < m
  · rw [if_pos h1, if_pos (by omega)]
  · rw [if_neg h1, he]
    unfold eLater
    by_cases h2 : t - m < d
    · rw [if_pos h2, if_pos (by omega)]
    · rw [if_neg h2, if_neg (by omega), show t - (d + m) = t - m - d by omega]

end Go.Proofs.Ytbaboncanplikaa
