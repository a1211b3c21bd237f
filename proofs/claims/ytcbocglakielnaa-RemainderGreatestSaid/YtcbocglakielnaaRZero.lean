/- The contract of keep.Zero. By the verifier's side. -/
import Derived.Test.YtcbocglakielnaaRBentE
import Derived.Test.YtcbocglakielnaaROrdM
namespace Go.Proofs.Ytcbocglakielnaa
open Go.RowKit
set_option linter.unusedSimpArgs false

/-- A curve that is short and small. -/
def Sm (zs : List Int) (p : Nat) (inc : Int) : Prop := zs.length ≤ 16 ∧ p ≤ 8 ∧ inc ≤ 1000 ∧ ∀ i, i < zs.length → zs.getD i 0 ≤ 10000 ∨ zs.getD i 0 = infV

/-- Such a curve, with a period that divides 24. -/
def Sm2 (zs : List Int) (p : Nat) (inc : Int) : Prop := Sm zs p inc ∧ 24 % p = 0

/-- A finite curve is handed back that is 0 at the tick 0, in memory of the call's own; of the elder blocks only the reader's has turned. -/
def GivesZero2 (b : Nat) (a : Option Addr) (n cap : Nat) (w : World) (e : Ending) (w' : World) : Prop :=
  ∃ (a' : Option Addr) (n' cap' : Nat) (zs : List Int) (p : Nat) (inc : Int), e = .returned (curV a' n' cap' p inc) ∧ SrcAt w' b a n cap ∧ Apart b w w' ∧ RowZ w' a' n' cap' zs ∧ Good zs p inc ∧ (¬ InfC zs) ∧ zs.getD 0 0 = 0 ∧ Sm2 zs p inc ∧ ∀ x, a' = some x → w.heap.size ≤ x.block

theorem addr_zero (x : Addr) : x.add 0 = x := by unfold Addr.add; split <;> simp_all

def zeroOf : Option Value → Nat
  | some (.int _ x) => if x = 0 then 1 else 0
  | _ => 0

theorem zero_lit (r : Int) (h0 : 0 ≤ r) (h5 : r < 5) (p : Nat) (hp : p = 1 ∨ p = 2) : Good [0, 4, 4 + r] p 8 ∧ ¬ InfC [0, 4, 4 + r] := by
  have h : r = 0 ∨ r = 1 ∨ r = 2 ∨ r = 3 ∨ r = 4 := by omega
  rw [infC_iff]
  rcases h with rfl | rfl | rfl | rfl | rfl <;> rcases hp with rfl | rfl <;> exact ⟨(okC_iff _ _ _).1 (by decide), by decide⟩

theorem shift_good {zs ls : List Int} {p : Nat} {inc v : Int} (g : Good zs p inc) (hf : ¬ InfC zs) (hv : zs.getD 0 0 = v) (hl : ls.length = zs.length) (he : ∀ i, i < zs.length → ls.getD i 0 = zs.getD i 0 - v) : Good ls p inc ∧ (¬ InfC ls) ∧ ls.getD 0 0 = 0 := by
  have hp1 := g.p1; have hp3 := g.p3
  have hb : ∀ i, i < zs.length → 0 ≤ zs.getD i 0 - v ∧ zs.getD i 0 - v ≤ 1073741824 := fun i hi => by
    have h1 := g.small hf hi
    have h2 := g.small hf (show 0 < zs.length by omega)
    have h3 := g.le (Nat.zero_le i) hi
    rw [hv] at h2 h3
    omega
  have hlast : ¬ InfC ls := by
    rw [infC_iff, hl, he _ (by omega)]
    have := hb (zs.length - 1) (by omega)
    unfold infV; omega
  refine ⟨⟨by rw [hl]; exact g.few, g.p1, g.p2, by rw [hl]; exact g.p3, g.i0, g.i1, fun i hi => ?_, fun i hi => ?_, fun hx => absurd hx hlast, fun _ => ?_⟩, hlast, ?_⟩
  · rw [hl] at hi; rw [he i hi]; exact .inl (hb i hi)
  · rw [hl] at hi; rw [he i (by omega), he (i + 1) hi]; have := g.mono i hi; omega
  · rw [hl, he _ (by omega), he _ (by omega)]; have := g.tailF hf; omega
  · rw [he 0 (by omega), hv]; omega

theorem sm_lit {r : Int} (h5 : r < 5) {p : Nat} (hp : p = 1 ∨ p = 2) : Sm [0, 4, 4 + r] p 8 := by
  refine ⟨by show 3 ≤ 16; decide, by omega, by decide, fun i hi => .inl ?_⟩
  have h : i = 0 ∨ i = 1 ∨ i = 2 := by have : i < 3 := hi; omega
  rcases h with rfl | rfl | rfl
  · show (0 : Int) ≤ 10000; omega
  · show (4 : Int) ≤ 10000; omega
  · show 4 + r ≤ 10000; omega

theorem sm_shift {zs ls : List Int} {p : Nat} {inc v : Int} (h : Sm zs p inc) (g : Good zs p inc) (hf : ¬ InfC zs) (hv : zs.getD 0 0 = v) (hl : ls.length = zs.length) (he : ∀ i, i < zs.length → ls.getD i 0 = zs.getD i 0 - v) : Sm ls p inc := by
  obtain ⟨h1, h2, h3, h4⟩ := h
  have hp1 := g.p1; have hp3 := g.p3
  refine ⟨by omega, h2, h3, fun i hi => .inl ?_⟩
  rw [hl] at hi
  rw [he i hi]
  have a1 := g.small hf hi
  have a2 := g.small hf (show 0 < zs.length by omega)
  rw [hv] at a2
  rcases h4 i hi with h | h
  · omega
  · rw [h] at a1; unfold infV at a1; omega

theorem sm_lit2 {r : Int} (h5 : r < 5) {p : Nat} (hp : p = 1 ∨ p = 2) : Sm2 [0, 4, 4 + r] p 8 := ⟨sm_lit h5 hp, by rcases hp with rfl | rfl <;> rfl⟩
theorem sm_shift2 {zs ls : List Int} {p : Nat} {inc v : Int} (h : Sm2 zs p inc) (g : Good zs p inc) (hf : ¬ InfC zs) (hv : zs.getD 0 0 = v) (hl : ls.length = zs.length) (he : ∀ i, i < zs.length → ls.getD i 0 = zs.getD i 0 - v) : Sm2 ls p inc := ⟨sm_shift h.1 g hf hv hl he, h.2⟩

theorem newsRow {w : World} {x : Addr} {n cap : Nat} {zs : List Int} (h : RowZ w (some x) n cap zs) : ∀ j u, (zs.map (Value.int .i64))[j]? = some u → w.cell? (x.add j) = some u := by
  intro j u hj
  rw [List.getElem?_map, Option.map_eq_some_iff] at hj
  obtain ⟨z, hz, rfl⟩ := hj
  have hjn : j < zs.length := (List.getElem?_eq_some_iff.1 hz).1
  obtain ⟨x', hx, hc⟩ := h.cell j (by rw [h.len] at hjn; exact hjn)
  obtain rfl : x = x' := Option.some.inj hx
  rw [show zs.getD j 0 = z by simp [List.getD, hz]] at hc
  exact hc

/-- What stands in Zero: the reader, the curve's box and its list, and the result's box. -/
structure Zr (w : World) (b : Nat) (a : Option Addr) (n cap F : Nat) (a1 : Option Addr) (n1 cap1 p : Nat) (inc : Int) (zs : List Int) (wx : World) : Prop where
  held : Held w b a n cap wx
  bf : Cur3 wx F (.slice a1 n1 cap1) (.int .i64 p) (.int .i64 inc)
  br : Cur3 wx w.heap.size (.slice none 0 0) (.int .i64 0) (.int .i64 0)
  row : RowZ wx a1 n1 cap1 zs
  good : Good zs p inc
  sm : Sm2 zs p inc
  far : ∀ x, a1 = some x → w.heap.size < x.block ∧ ¬ x.block = F
  hF : w.heap.size < F
  hb : b < w.heap.size

section
variable {w u v : World} {b : Nat} {a : Option Addr} {n cap F : Nat} {a1 : Option Addr} {n1 cap1 p : Nat} {inc : Int} {zs : List Int}
theorem Zr.call (h : Zr w b a n cap F a1 n1 cap1 p inc zs u) (hs : SrcAt v b a n cap) (ha : Apart b u v) : Zr w b a n cap F a1 n1 cap1 p inc zs v := by
  have h1 := h.hb; have h2 := h.hF
  exact ⟨h.held.call hs ha, h.bf.apart ha (by omega), h.br.apart ha (by omega), h.row.apart ha (fun x hx => by have := h.far x hx; omega), h.good, h.sm, h.far, h2, h1⟩
theorem Zr.alloc (h : Zr w b a n cap F a1 n1 cap1 p inc zs u) (o : Obj) : Zr w b a n cap F a1 n1 cap1 p inc zs (u.alloc o) := ⟨h.held.alloc o, h.bf.alloc o, h.br.alloc o, h.row.alloc o, h.good, h.sm, h.far, h.hF, h.hb⟩
/-- Another curve is stored. -/
theorem Zr.put (h : Zr w b a n cap F a1 n1 cap1 p inc zs u) {a2 : Option Addr} {n2 cap2 q : Nat} {jnc : Int} {ys : List Int} (hr : RowZ u a2 n2 cap2 ys) (g : Good ys q jnc) (hsm : Sm2 ys q jnc) (hx : ∀ x, a2 = some x → w.heap.size < x.block ∧ ¬ x.block = F) :
    Zr w b a n cap F a2 n2 cap2 q jnc ys (((u.setCell ⟨F, 0, none⟩ (.slice a2 n2 cap2)).setCell ⟨F, 1, none⟩ (.int .i64 q)).setCell ⟨F, 2, none⟩ (.int .i64 jnc)) := by
  have h1 := h.hF
  exact ⟨((h.held.set h.hb (p := ⟨F, 0, none⟩) (Nat.le_of_lt h1) _).set h.hb (p := ⟨F, 1, none⟩) (Nat.le_of_lt h1) _).set h.hb (p := ⟨F, 2, none⟩) (Nat.le_of_lt h1) _, h.bf.set _ _ _,
    ((h.br.other (by omega) _ _).other (by omega) _ _).other (by omega) _ _, ((hr.store (fun x e _ => (hx x e).2) _ _).store (fun x e _ => (hx x e).2) _ _).store (fun x e _ => (hx x e).2) _ _, g, hsm, hx, h1, h.hb⟩
/-- The end: the curve is stored to the result's box, and handed back. -/
theorem Zr.post (h : Zr w b a n cap F a1 n1 cap1 p inc zs u) (hS : SrcAt w b a n cap) (hf : ¬ InfC zs) (h0 : zs.getD 0 0 = 0) :
    GivesZero2 b a n cap w (.returned (curV a1 n1 cap1 p inc)) (((u.setCell ⟨w.heap.size, 0, none⟩ (.slice a1 n1 cap1)).setCell ⟨w.heap.size, 1, none⟩ (.int .i64 p)).setCell ⟨w.heap.size, 2, none⟩ (.int .i64 inc)) := by
  have H := ((h.held.set h.hb (p := ⟨w.heap.size, 0, none⟩) (Nat.le_refl _) (.slice a1 n1 cap1)).set h.hb (p := ⟨w.heap.size, 1, none⟩) (Nat.le_refl _) (.int .i64 p)).set h.hb (p := ⟨w.heap.size, 2, none⟩) (Nat.le_refl _) (.int .i64 inc)
  have hx : ∀ x, a1 = some x → w.heap.size < x.block := fun x hx => (h.far x hx).1
  exact ⟨a1, n1, cap1, zs, p, inc, rfl, H.at hS, H.ap, ((h.row.store (fun x h _ => Nat.ne_of_gt (hx x h)) _ _).store (fun x h _ => Nat.ne_of_gt (hx x h)) _ _).store (fun x h _ => Nat.ne_of_gt (hx x h)) _ _, h.good, hf, h0, h.sm, fun x h => Nat.le_of_lt (hx x h)⟩
end

end Go.Proofs.Ytcbocglakielnaa
