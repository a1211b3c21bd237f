/- The contract of keep.Zero. By the verifier's side. -/
import Derived.Test.YtknimlpdpgpliaaCBentE
import Derived.Test.YtknimlpdpgpliaaCOrdM
namespace Go.Proofs.Ytknimlpdpgpliaa
open Go.RowKit
set_option linter.unusedSimpArgs false

/-- A curve that is short and small. -/
def Sm (zs : List Int) (p : Nat) (inc : Int) : Prop := zs.length ≤ 16 ∧ p ≤ 8 ∧ inc ≤ 1000 ∧ ∀ i, i < zs.length → zs.getD i 0 ≤ 10000 ∨ zs.getD i 0 = infV

/-- Such a curve, with a period that divides 24. -/
def Sm2 (zs : List Int) (p : Nat) (inc : Int) : Prop := Sm zs p inc ∧ 24 % p = 0

theorem addr_zero (x : Addr) : x.add 0 = x := by unfold Addr.add; split <;> simp_all

def zeroOf : Option Value → Nat
  | some (.int _ x) => if x = 0 then 1 else 0
  | _ => 0

theorem zero_lit (r : Int) (h0 : 0 ≤ r) (h5 : r < 5) (p : Nat) (hp : p = 1 ∨ p = 2) : Good [0, 4, 4 + r] p 8 ∧ ¬ InfC [0, 4, 4 + r] := by
  have h : r = 0 ∨ r = 1 ∨ r = 2 ∨ r = 3 ∨ r = 4 := by omega
  rw [infC_iff]
  rcases h with rfl | rfl | rfl | rfl | rfl <;> rcases hp with rfl | rfl <;> exact ⟨(okC_iff _ _ _).1 (by decide), by decide⟩

theorem shift_good {zs ls : List Int} {p : Nat} {inc v : Int} (g : Good zs p inc) (hf : ¬ InfC zs) (hv : zs.getD 0 0 = v) (hl : ls.length = zs.length) (he : ∀ i, i < zs.length → ls.getD i 0 = zs.getD i 0 - v) : Good ls p inc ∧ (¬ InfC ls) ∧ ls.getD 0 0 = 0 := by
  have hp1 := g.p1; have hp3 := g.p3
  have hb : ∀ i, i < zs.length → 0 ≤ zs.getD i 0 - v ∧ zs.getD i 0 - v ≤ 1073741824 := fun i hi => by
    have h1 := g.small hf hi
    have h2 := g.small hf (show 0 < zs.length by omega)
    have h3 := g.le (Nat.zero_le i) hi
    rw [hv] at h2 h3
    omega
  have hlast : ¬ InfC ls := by
    rw [infC_iff, hl, he _ (by omega)]
    have := hb (zs.length - 1) (by omega)
    unfold infV; omega
  refine ⟨⟨by rw [hl]; exact g.few, g.p1, g.p2, by rw [hl]; exact g.p3, g.i0, g.i1, fun i hi => ?_, fun i hi => ?_, fun hx => absurd hx hlast, fun _ => ?_⟩, hlast, ?_⟩
  · rw [hl] at hi; rw [he i hi]; exact .inl (hb i hi)
  · rw [hl] at hi; rw [he i (by omega), he (i + 1) hi]; have := g.mono i hi; omega
  · rw [hl, he _ (by omega), he _ (by omega)]; have := g.tailF hf; omega
  · rw [he 0 (by omega), hv]; omega

theorem sm_lit {r : Int} (h5 : r < 5) {p : Nat} (hp : p = 1 ∨ p = 2) : Sm [0, 4, 4 + r] p 8 := by
  refine ⟨by show 3 ≤ 16; decide, by omega, by decide, fun i hi => .inl ?_⟩
  have h : i = 0 ∨ i = 1 ∨ i = 2 := by have : i < 3 := hi; omega
  rcases h with rfl | rfl | rfl
  · show (0 : Int) ≤ 10000; omega
  · show (4 : Int) ≤ 10000; omega
  · show 4 + r ≤ 10000; omega

theorem sm_shift {zs ls : List Int} {p : Nat} {inc v : Int} (h : Sm zs p inc) (g : Good zs p inc) (hf : ¬ InfC zs) (hv : zs.getD 0 0 = v) (hl : ls.length = zs.length) (he : ∀ i, i < zs.length → ls.getD i 0 = zs.getD i 0 - v) : Sm ls p inc := by
  obtain ⟨h1, h2, h3, h4⟩ := h
  have hp1 := g.p1; have hp3 := g.p3
  refine ⟨by omega, h2, h3, fun i hi => .inl ?_⟩
  rw [hl] at hi
  rw [he i hi]
  have a1 := g.small hf hi
  have a2 := g.small hf (show 0 < zs.length by omega)
  rw [hv] at a2
  rcases h4 i hi with h | h
  · omega
  · rw [h] at a1; unfold infV at a1; omega

theorem sm_lit2 {r : Int} (h5 : r < 5) {p : Nat} (hp : p = 1 ∨ p = 2) : Sm2 [0, 4, 4 + r] p 8 := ⟨sm_lit h5 hp, by rcases hp with rfl | rfl <;> rfl⟩
theorem sm_shift2 {zs ls : List Int} {p : Nat} {inc v : Int} (h : Sm2 zs p inc) (g : Good zs p inc) (hf : ¬ InfC zs) (hv : zs.getD 0 0 = v) (hl : ls.length = zs.length) (he : ∀ i, i < zs.length → ls.getD i 0 = zs.getD i 0 - v) : Sm2 ls p inc := ⟨sm_shift h.1 g hf hv hl he, h.2⟩

theorem newsRow {w : World} {x : Addr} {n cap : Nat} {zs : List Int} (h : RowZ w (some x) n cap zs) : ∀ j u, (zs.map (Value.int .i64))[j]? = some u → w.cell? (x.add j) = some u := by
  intro j u hj
  rw [List.getElem?_map, Option.map_eq_some_iff] at hj
  obtain ⟨z, hz, rfl⟩ := hj
  have hjn : j < zs.length := (List.getElem?_eq_some_iff.1 hz).1
  obtain ⟨x', hx, hc⟩ := h.cell j (by rw [h.len] at hjn; exact hjn)
  obtain rfl : x = x' := Option.some.inj hx
  rw [show zs.getD j 0 = z by simp [List.getD, hz]] at hc
  exact hc

section
variable {w u v : World} {b : Nat} {a : Option Addr} {n cap F : Nat} {a1 : Option Addr} {n1 cap1 p : Nat} {inc : Int} {zs : List Int}
end

end Go.Proofs.Ytknimlpdpgpliaa
