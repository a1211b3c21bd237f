/- The walk of CurveEqual. By the verifier's side. -/
import Derived.Test.YtolgklpdmlohlaaCurveNormalW
import Derived.Test.YtolgklpdmlohlaaCurX
import Derived.Test.YtolgklpdmlohlaaBent
import Derived.Test.YtolgklpdmlohlaaRefV
namespace Go.Proofs.Ytolgklpdmlohlaa
open Go.RowKit
set_option linter.unusedSimpArgs false

/-- Two valid curves that agree up to where both are periodic, and for two common periods more, are the same function. -/
theorem same_all {zs ys : List Int} {p q : Nat} {inc jnc : Int} (g : Good zs p inc) (k : Good ys q jnc) {M : Nat} (hM : M = max zs.length ys.length + 2 * (p / Nat.gcd p q * q)) (h : ∀ t, t < M → atC zs p inc t = atC ys q jnc t) : ∀ t, atC zs p inc t = atC ys q jnc t := by
  have hp1 := g.p1; have hp3 := g.p3; have hq1 := k.p1; have hq3 := k.p3
  have hf4 := g.few; have hk4 := k.few
  have hg := Nat.gcd_pos_of_pos_left q (show 0 < p by omega)
  obtain ⟨x, hx⟩ := Nat.gcd_dvd_left p q
  obtain ⟨y, hy⟩ := Nat.gcd_dvd_right p q
  have e1 : p / Nat.gcd p q = x := by
    have : Nat.gcd p q * x / Nat.gcd p q = x := Nat.mul_div_cancel_left x hg
    rwa [← hx] at this
  rw [e1] at hM
  obtain ⟨L, hL⟩ : ∃ L, x * q = L := ⟨_, rfl⟩
  rw [hL] at hM
  have hLp : L = y * p := by
    rw [← hL]
    have k1 : x * (Nat.gcd p q * y) = y * (Nat.gcd p q * x) := by rw [Nat.mul_left_comm, Nat.mul_left_comm y, Nat.mul_comm x y]
    rw [← hy, ← hx] at k1; exact k1
  have hx1 : 1 ≤ x := by
    rcases Nat.eq_zero_or_pos x with h0 | h0
    · rw [h0] at hx; omega
    · exact h0
  have hL1 : 1 ≤ L := by rw [← hL]; exact Nat.mul_pos hx1 hq1
  have hm1 : zs.length ≤ M := by omega
  have hm2 : ys.length ≤ M := by omega
  by_cases hf : zs.getD (zs.length - 1) 0 = infV
  · have a1 := h (zs.length - 1) (by omega)
    rw [atC_inf hf (Nat.le_refl _) (by omega)] at a1
    have hk := k.inf_at (t := zs.length - 1) (by omega) a1.symm
    intro t
    by_cases ht : t < M
    · exact h t ht
    · rw [atC_inf hf (by omega) (by omega), atC_inf hk (by omega) (by omega)]
  · have hk : ¬ ys.getD (ys.length - 1) 0 = infV := fun hx => by
      have a1 := h (ys.length - 1) (by omega)
      rw [atC_inf hx (Nat.le_refl _) (by omega)] at a1
      exact hf (g.inf_at (t := ys.length - 1) (by omega) a1)
    have P1 := ((g.per hf).mul y).mono (show zs.length - p ≤ max zs.length ys.length by omega)
    have P2 := ((k.per hk).mul x).mono (show ys.length - q ≤ max zs.length ys.length by omega)
    rw [← hLp] at P1
    rw [hL] at P2
    have hc : (y : Int) * inc = (x : Int) * jnc := by
      have b1 := P1 _ (Nat.le_refl _)
      have b2 := P2 _ (Nat.le_refl _)
      have b3 := h (max zs.length ys.length) (by omega)
      have b4 := h (max zs.length ys.length + L) (by omega)
      omega
    rw [← hc] at P2
    exact P1.ext P2 hL1 (fun t ht => h t (by omega))

theorem row_lt {w : World} {a : Option Addr} {n cap : Nat} {zs : List Int} (h : RowZ w a n cap zs) (hn : 1 ≤ n) : ∀ x, a = some x → x.block < w.heap.size := fun x hx => by
  obtain ⟨y, h1, h2⟩ := h.cell 0 (by omega)
  obtain rfl : x = y := Option.some.inj (hx.symm.trans h1)
  have := lt_of_cell h2
  rwa [add_block] at this
theorem ok_pos {most : Nat} {zs : List Int} {p : Nat} {inc : Int} (h : OkCur most zs p inc) : 1 ≤ zs.length := by have := h.good.p1; have := h.good.p3; omega

/-- What stands while the second curve is made: the reader, both boxes and both rows. -/
structure Ce (w : World) (b : Nat) (a : Option Addr) (n cap F : Nat) (a1 : Option Addr) (n1 cap1 : Nat) (p inc : Int) (zs : List Int) (G : Nat) (a2 : Option Addr) (n2 cap2 : Nat) (q jnc : Int) (ys : List Int) (wx : World) : Prop where
  held : Held w b a n cap wx
  bf : Cur3 wx F (.slice a1 n1 cap1) (.int .i64 p) (.int .i64 inc)
  rf : RowZ wx a1 n1 cap1 zs
  bg : Cur3 wx G (.slice a2 n2 cap2) (.int .i64 q) (.int .i64 jnc)
  rg : RowZ wx a2 n2 cap2 ys
  hb : b < w.heap.size
  hF : w.heap.size ≤ F
  hG : w.heap.size ≤ G
  hFG : ¬ F = G
  nf : ∀ x, a1 = some x → ¬ x.block = b ∧ ¬ x.block = G
  ng : ∀ x, a2 = some x → ¬ x.block = b
section
variable {w u v : World} {b : Nat} {a : Option Addr} {n cap F : Nat} {a1 : Option Addr} {n1 cap1 : Nat} {p inc : Int} {zs : List Int} {G : Nat} {a2 : Option Addr} {n2 cap2 : Nat} {q jnc : Int} {ys : List Int}
theorem Ce.call (h : Ce w b a n cap F a1 n1 cap1 p inc zs G a2 n2 cap2 q jnc ys u) (hs : SrcAt v b a n cap) (ha : Apart b u v) : Ce w b a n cap F a1 n1 cap1 p inc zs G a2 n2 cap2 q jnc ys v := by
  have h1 := h.hb; have h2 := h.hF; have h3 := h.hG
  exact ⟨h.held.call hs ha, h.bf.apart ha (by omega), h.rf.apart ha (fun x hx => (h.nf x hx).1), h.bg.apart ha (by omega), h.rg.apart ha h.ng, h1, h2, h3, h.hFG, h.nf, h.ng⟩
theorem Ce.below (h : Ce w b a n cap F a1 n1 cap1 p inc zs G a2 n2 cap2 q jnc ys u) (hb : Below u.heap.size u v) : Ce w b a n cap F a1 n1 cap1 p inc zs G a2 n2 cap2 q jnc ys v :=
  ⟨h.held.below hb, h.bf.below hb, h.rf.under hb, h.bg.below hb, h.rg.under hb, h.hb, h.hF, h.hG, h.hFG, h.nf, h.ng⟩
theorem Ce.drew (h : Ce w b a n cap F a1 n1 cap1 p inc zs G a2 n2 cap2 q jnc ys u) : Ce w b a n cap F a1 n1 cap1 p inc zs G a2 n2 cap2 q jnc ys u.drew :=
  h.below (Below.refl _ _).drew
theorem Ce.setG (h : Ce w b a n cap F a1 n1 cap1 p inc zs G a2 n2 cap2 q jnc ys u) {a3 : Option Addr} {n3 cap3 : Nat} {q' jnc' : Int} {xs : List Int} (hr : RowZ u a3 n3 cap3 xs) (hx : ∀ x, a3 = some x → ¬ x.block = b ∧ ¬ x.block = G) :
    Ce w b a n cap F a1 n1 cap1 p inc zs G a3 n3 cap3 q' jnc' xs (((u.setCell ⟨G, 0, none⟩ (.slice a3 n3 cap3)).setCell ⟨G, 1, none⟩ (.int .i64 q')).setCell ⟨G, 2, none⟩ (.int .i64 jnc')) := by
  have h1 := h.hb; have h2 := h.hF; have h3 := h.hG
  exact ⟨((h.held.set h1 (p := ⟨G, 0, none⟩) h3 _).set h1 (p := ⟨G, 1, none⟩) h3 _).set h1 (p := ⟨G, 2, none⟩) h3 _, ((h.bf.other h.hFG _ _).other h.hFG _ _).other h.hFG _ _,
    ((h.rf.store (fun x e _ => (h.nf x e).2) _ _).store (fun x e _ => (h.nf x e).2) _ _).store (fun x e _ => (h.nf x e).2) _ _, h.bg.set _ _ _,
    ((hr.store (fun x e _ => (hx x e).2) _ _).store (fun x e _ => (hx x e).2) _ _).store (fun x e _ => (hx x e).2) _ _, h1, h2, h3, h.hFG, h.nf, fun x e => (hx x e).1⟩
abbrev CeS (w : World) (b : Nat) (a : Option Addr) (n cap F : Nat) (a1 : Option Addr) (n1 cap1 : Nat) (p inc : Int) (zs : List Int) (G : Nat) (a2 : Option Addr) (n2 cap2 : Nat) (q jnc : Int) (ys : List Int) (wx : World) : Prop :=
  wx.cell? ⟨F, 0, none⟩ = some (.slice a1 n1 cap1) ∧ wx.cell? ⟨F, 1, none⟩ = some (.int .i64 p) ∧ wx.cell? ⟨F, 2, none⟩ = some (.int .i64 inc) ∧ Hid (Ce w b a n cap F a1 n1 cap1 p inc zs G a2 n2 cap2 q jnc ys wx)
theorem ce_s (h : Ce w b a n cap F a1 n1 cap1 p inc zs G a2 n2 cap2 q jnc ys u) : CeS w b a n cap F a1 n1 cap1 p inc zs G a2 n2 cap2 q jnc ys u := ⟨h.bf.c0, h.bf.c1, h.bf.c2, h⟩
end

end Go.Proofs.Ytolgklpdmlohlaa
