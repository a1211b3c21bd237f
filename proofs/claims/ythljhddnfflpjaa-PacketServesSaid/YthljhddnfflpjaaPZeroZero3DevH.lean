/- The contract of keep.Zero. By the verifier's side. -/
import Derived.Test.YthljhddnfflpjaaPBentE
import Derived.Test.YthljhddnfflpjaaPOrdMPwM
import Derived.Test.YthljhddnfflpjaaPConMN
import Derived.Test.YthljhddnfflpjaaPPwE
import Derived.Test.YthljhddnfflpjaaPRefA
import Derived.Deep.LoopGhost
import Derived.Deep.CutBlock
import Derived.BigQuiet
import Derived.Test.YthljhddnfflpjaaPPwFPwG
import Derived.Test.YthljhddnfflpjaaPPwSPwU
import Derived.Test.YthljhddnfflpjaaPBaseApartPickKeepS
import Derived.Laws.EntriesVeiled
import Derived.Test.YthljhddnfflpjaaPCurWCurveNormalW
import Derived.Test.YthljhddnfflpjaaPCurSLongKeepC
namespace Go.Proofs.Ythljhddnfflpjaa
open Go.RowKit
set_option linter.unusedSimpArgs false

/-- A curve that is short and small. -/
def Sm (zs : List Int) (p : Nat) (inc : Int) : Prop := zs.length ≤ 16 ∧ p ≤ 8 ∧ inc ≤ 1000 ∧ ∀ i, i < zs.length → zs.getD i 0 ≤ 10000 ∨ zs.getD i 0 = infV

/-- Such a curve, with a period that divides 24. -/
def Sm2 (zs : List Int) (p : Nat) (inc : Int) : Prop := Sm zs p inc ∧ 24 % p = 0

theorem addr_zero (x : Addr) : x.add 0 = x := by unfold Addr.add; split <;> simp_all

def zeroOf : Option Value → Nat
  | some (.int _ x) => if x = 0 then 1 else 0
  | _ => 0

theorem zero_lit (r : Int) (h0 : 0 ≤ r) (h5 : r < 5) (p : Nat) (hp : p = 1 ∨ p = 2) : Good [0, 4, 4 + r] p 8 ∧ ¬ InfC [0, 4, 4 + r] := by
  have h : r = 0 ∨ r = 1 ∨ r = 2 ∨ r = 3 ∨ r = 4 := by omega
  rw [infC_iff]
  rcases h with rfl | rfl | rfl | rfl | rfl <;> rcases hp with rfl | rfl <;> exact ⟨(okC_iff _ _ _).1 (by decide), by decide⟩

theorem shift_good {zs ls : List Int} {p : Nat} {inc v : Int} (g : Good zs p inc) (hf : ¬ InfC zs) (hv : zs.getD 0 0 = v) (hl : ls.length = zs.length) (he : ∀ i, i < zs.length → ls.getD i 0 = zs.getD i 0 - v) : Good ls p inc ∧ (¬ InfC ls) ∧ ls.getD 0 0 = 0 := by
  have hp1 := g.p1; have hp3 := g.p3
  have hb : ∀ i, i < zs.length → 0 ≤ zs.getD i 0 - v ∧ zs.getD i 0 - v ≤ 1073741824 := fun i hi => by
    have h1 := g.small hf hi
    have h2 := g.small hf (show 0 < zs.length by omega)
    have h3 := g.le (Nat.zero_le i) hi
    rw [hv] at h2 h3
    omega
  have hlast : ¬ InfC ls := by
    rw [infC_iff, hl, he _ (by omega)]
    have := hb (zs.length - 1) (by omega)
    unfold infV; omega
  refine ⟨⟨by rw [hl]; exact g.few, g.p1, g.p2, by rw [hl]; exact g.p3, g.i0, g.i1, fun i hi => ?_, fun i hi => ?_, fun hx => absurd hx hlast, fun _ => ?_⟩, hlast, ?_⟩
  · rw [hl] at hi; rw [he i hi]; exact .inl (hb i hi)
  · rw [hl] at hi; rw [he i (by omega), he (i + 1) hi]; have := g.mono i hi; omega
  · rw [hl, he _ (by omega), he _ (by omega)]; have := g.tailF hf; omega
  · rw [he 0 (by omega), hv]; omega

theorem sm_lit {r : Int} (h5 : r < 5) {p : Nat} (hp : p = 1 ∨ p = 2) : Sm [0, 4, 4 + r] p 8 := by
  refine ⟨by show 3 ≤ 16; decide, by omega, by decide, fun i hi => .inl ?_⟩
  have h : i = 0 ∨ i = 1 ∨ i = 2 := by have : i < 3 := hi; omega
  rcases h with rfl | rfl | rfl
  · show (0 : Int) ≤ 10000; omega
  · show (4 : Int) ≤ 10000; omega
  · show 4 + r ≤ 10000; omega

theorem sm_shift {zs ls : List Int} {p : Nat} {inc v : Int} (h : Sm zs p inc) (g : Good zs p inc) (hf : ¬ InfC zs) (hv : zs.getD 0 0 = v) (hl : ls.length = zs.length) (he : ∀ i, i < zs.length → ls.getD i 0 = zs.getD i 0 - v) : Sm ls p inc := by
  obtain ⟨h1, h2, h3, h4⟩ := h
  have hp1 := g.p1; have hp3 := g.p3
  refine ⟨by omega, h2, h3, fun i hi => .inl ?_⟩
  rw [hl] at hi
  rw [he i hi]
  have a1 := g.small hf hi
  have a2 := g.small hf (show 0 < zs.length by omega)
  rw [hv] at a2
  rcases h4 i hi with h | h
  · omega
  · rw [h] at a1; unfold infV at a1; omega

theorem sm_lit2 {r : Int} (h5 : r < 5) {p : Nat} (hp : p = 1 ∨ p = 2) : Sm2 [0, 4, 4 + r] p 8 := ⟨sm_lit h5 hp, by rcases hp with rfl | rfl <;> rfl⟩
theorem sm_shift2 {zs ls : List Int} {p : Nat} {inc v : Int} (h : Sm2 zs p inc) (g : Good zs p inc) (hf : ¬ InfC zs) (hv : zs.getD 0 0 = v) (hl : ls.length = zs.length) (he : ∀ i, i < zs.length → ls.getD i 0 = zs.getD i 0 - v) : Sm2 ls p inc := ⟨sm_shift h.1 g hf hv hl he, h.2⟩

theorem newsRow {w : World} {x : Addr} {n cap : Nat} {zs : List Int} (h : RowZ w (some x) n cap zs) : ∀ j u, (zs.map (Value.int .i64))[j]? = some u → w.cell? (x.add j) = some u := by
  intro j u hj
  rw [List.getElem?_map, Option.map_eq_some_iff] at hj
  obtain ⟨z, hz, rfl⟩ := hj
  have hjn : j < zs.length := (List.getElem?_eq_some_iff.1 hz).1
  obtain ⟨x', hx, hc⟩ := h.cell j (by rw [h.len] at hjn; exact hjn)
  obtain rfl : x = x' := Option.some.inj hx
  rw [show zs.getD j 0 = z by simp [List.getD, hz]] at hc
  exact hc

section
variable {w u v : World} {b : Nat} {a : Option Addr} {n cap F : Nat} {a1 : Option Addr} {n1 cap1 p : Nat} {inc : Int} {zs : List Int}
end

end Go.Proofs.Ythljhddnfflpjaa

namespace Go.Proofs.Ythljhddnfflpjaa
open Go.RowKit
set_option linter.unusedSimpArgs false
set_option linter.unusedVariables false

/-- A curve that is short and small, and if it is finite, slow, and repeats by 12 ticks. -/
def Sm3 (most : Nat) (zs : List Int) (p : Nat) (inc : Int) : Prop := Sm2 zs p inc ∧ (¬ InfC zs → (∀ t, atC zs p inc t ≤ 3 + 9 * (t : Int)) ∧ ∃ c, Per (atC zs p inc) most 12 c)

/-- A finite curve is handed back that is 0 at the tick 0, in memory of the call's own; of the elder blocks only the reader's has turned. -/
def GivesZero3 (most : Nat) (b : Nat) (a : Option Addr) (n cap : Nat) (w : World) (e : Ending) (w' : World) : Prop :=
  ∃ (a' : Option Addr) (n' cap' : Nat) (zs : List Int) (p : Nat) (inc : Int), e = .returned (curV a' n' cap' p inc) ∧ SrcAt w' b a n cap ∧ Apart b w w' ∧ RowZ w' a' n' cap' zs ∧ Good zs p inc ∧ (¬ InfC zs) ∧ zs.getD 0 0 = 0 ∧ Sm3 most zs p inc ∧ ∀ x, a' = some x → w.heap.size ≤ x.block

theorem shift_at {zs ls : List Int} {p : Nat} {inc v : Int} (g : Good zs p inc) (hf : ¬ InfC zs) (k : Good ls p inc) (kf : ¬ InfC ls) (hl : ls.length = zs.length) (he : ∀ i, i < zs.length → ls.getD i 0 = zs.getD i 0 - v) (t : Nat) : atC ls p inc t = atC zs p inc t - v := by
  induction t using Nat.strongRecOn with
  | ind t ih =>
    have h1 := g.p1
    have h3 := g.p3
    by_cases hlt : t < zs.length
    · rw [atC_lt hlt, atC_lt (by omega), he t hlt]
    · have e1 := g.per hf (t - p) (by omega)
      have e2 := k.per kf (t - p) (by omega)
      have := ih (t - p) (by omega)
      rw [show t - p + p = t by omega] at e1 e2
      omega
theorem sm_lit3 {most : Nat} (hm : 2 ≤ most) {r : Int} (h0 : 0 ≤ r) (h5 : r < 5) {p : Nat} (hp : p = 1 ∨ p = 2) : Sm3 most [0, 4, 4 + r] p 8 := by
  refine ⟨sm_lit2 h5 hp, fun hf => ?_⟩
  obtain ⟨g, hf'⟩ := zero_lit r h0 h5 p hp
  refine ⟨slow_of g hf (fun i hi => ?_) (by omega), ?_⟩
  · have h : i = 0 ∨ i = 1 ∨ i = 2 := by have : i < 3 := hi; omega
    rcases h with rfl | rfl | rfl
    · show (0 : Int) ≤ _; omega
    · show (4 : Int) ≤ _; omega
    · show 4 + r ≤ _; omega
  · obtain ⟨c, h⟩ := per12 (g.per hf) g.p1 (by omega)
    exact ⟨c, h.mono (by show 3 - p ≤ most; omega)⟩
theorem sm_shift3 {most : Nat} {zs ls : List Int} {p : Nat} {inc v : Int} (h : Sm3 most zs p inc) (g : Good zs p inc) (hf : ¬ InfC zs) (hv : zs.getD 0 0 = v) (hl : ls.length = zs.length) (he : ∀ i, i < zs.length → ls.getD i 0 = zs.getD i 0 - v) : Sm3 most ls p inc := by
  refine ⟨sm_shift2 h.1 g hf hv hl he, fun kf => ?_⟩
  have k := (shift_good g hf hv hl he).1
  have ea := shift_at g hf k kf hl he
  have v0 : 0 ≤ v := by have := (g.small hf (show 0 < zs.length by have := g.p1; have := g.p3; omega)).1; omega
  obtain ⟨h1, c, h2⟩ := h.2 hf
  exact ⟨fun t => by rw [ea]; have := h1 t; omega, c, fun t ht => by rw [ea, ea]; have := h2 t ht; omega⟩

/-- What stands in Zero: the reader, the curve's box and its list, and the result's box. -/
structure Zr3 (most : Nat) (w : World) (b : Nat) (a : Option Addr) (n cap F : Nat) (a1 : Option Addr) (n1 cap1 p : Nat) (inc : Int) (zs : List Int) (wx : World) : Prop where
  held : Held w b a n cap wx
  bf : Cur3 wx F (.slice a1 n1 cap1) (.int .i64 p) (.int .i64 inc)
  br : Cur3 wx w.heap.size (.slice none 0 0) (.int .i64 0) (.int .i64 0)
  row : RowZ wx a1 n1 cap1 zs
  good : Good zs p inc
  sm : Sm3 most zs p inc
  far : ∀ x, a1 = some x → w.heap.size < x.block ∧ ¬ x.block = F
  hF : w.heap.size < F
  hb : b < w.heap.size

section
variable {most : Nat} {w u v : World} {b : Nat} {a : Option Addr} {n cap F : Nat} {a1 : Option Addr} {n1 cap1 p : Nat} {inc : Int} {zs : List Int}
theorem Zr3.call (h : Zr3 most w b a n cap F a1 n1 cap1 p inc zs u) (hs : SrcAt v b a n cap) (ha : Apart b u v) : Zr3 most w b a n cap F a1 n1 cap1 p inc zs v := by
  have h1 := h.hb; have h2 := h.hF
  exact ⟨h.held.call hs ha, h.bf.apart ha (by omega), h.br.apart ha (by omega), h.row.apart ha (fun x hx => by have := h.far x hx; omega), h.good, h.sm, h.far, h2, h1⟩
theorem Zr3.alloc (h : Zr3 most w b a n cap F a1 n1 cap1 p inc zs u) (o : Obj) : Zr3 most w b a n cap F a1 n1 cap1 p inc zs (u.alloc o) := ⟨h.held.alloc o, h.bf.alloc o, h.br.alloc o, h.row.alloc o, h.good, h.sm, h.far, h.hF, h.hb⟩
/-- Another curve is stored. -/
theorem Zr3.put (h : Zr3 most w b a n cap F a1 n1 cap1 p inc zs u) {a2 : Option Addr} {n2 cap2 q : Nat} {jnc : Int} {ys : List Int} (hr : RowZ u a2 n2 cap2 ys) (g : Good ys q jnc) (hsm : Sm3 most ys q jnc) (hx : ∀ x, a2 = some x → w.heap.size < x.block ∧ ¬ x.block = F) :
    Zr3 most w b a n cap F a2 n2 cap2 q jnc ys (((u.setCell ⟨F, 0, none⟩ (.slice a2 n2 cap2)).setCell ⟨F, 1, none⟩ (.int .i64 q)).setCell ⟨F, 2, none⟩ (.int .i64 jnc)) := by
  have h1 := h.hF
  exact ⟨((h.held.set h.hb (p := ⟨F, 0, none⟩) (Nat.le_of_lt h1) _).set h.hb (p := ⟨F, 1, none⟩) (Nat.le_of_lt h1) _).set h.hb (p := ⟨F, 2, none⟩) (Nat.le_of_lt h1) _, h.bf.set _ _ _,
    ((h.br.other (by omega) _ _).other (by omega) _ _).other (by omega) _ _, ((hr.store (fun x e _ => (hx x e).2) _ _).store (fun x e _ => (hx x e).2) _ _).store (fun x e _ => (hx x e).2) _ _, g, hsm, hx, h1, h.hb⟩
/-- The end: the curve is stored to the result's box, and handed back. -/
theorem Zr3.post (h : Zr3 most w b a n cap F a1 n1 cap1 p inc zs u) (hS : SrcAt w b a n cap) (hf : ¬ InfC zs) (h0 : zs.getD 0 0 = 0) :
    GivesZero3 most b a n cap w (.returned (curV a1 n1 cap1 p inc)) (((u.setCell ⟨w.heap.size, 0, none⟩ (.slice a1 n1 cap1)).setCell ⟨w.heap.size, 1, none⟩ (.int .i64 p)).setCell ⟨w.heap.size, 2, none⟩ (.int .i64 inc)) := by
  have H := ((h.held.set h.hb (p := ⟨w.heap.size, 0, none⟩) (Nat.le_refl _) (.slice a1 n1 cap1)).set h.hb (p := ⟨w.heap.size, 1, none⟩) (Nat.le_refl _) (.int .i64 p)).set h.hb (p := ⟨w.heap.size, 2, none⟩) (Nat.le_refl _) (.int .i64 inc)
  have hx : ∀ x, a1 = some x → w.heap.size < x.block := fun x hx => (h.far x hx).1
  exact ⟨a1, n1, cap1, zs, p, inc, rfl, H.at hS, H.ap, ((h.row.store (fun x h _ => Nat.ne_of_gt (hx x h)) _ _).store (fun x h _ => Nat.ne_of_gt (hx x h)) _ _).store (fun x h _ => Nat.ne_of_gt (hx x h)) _ _, h.good, hf, h0, h.sm, fun x h => Nat.le_of_lt (hx x h)⟩
end

set_option maxRecDepth 100000 in
set_option maxHeartbeats 6400000 in
theorem zero_any3 (most : Nat) (hmT : 2 ≤ most) (hm9 : most ≤ 9) (b : Nat) (a : Option Addr) (n cap : Nat) (w : World) (h : SrcAt w b a n cap) :
    Calls Try.prog 34 #[.pointer (some ⟨b, 0, none⟩), .int .i64 most] w (GivesZero3 most b a n cap w) := by
  obtain ⟨i0, hi, hz0, hz1, hz2⟩ := info_parts info_int
  have HS := Lib.hid h
  have hbl := h.lt
  have HD0 := Lib.hid ((Held.start h).alloc (.cells #[.slice none 0 0, .int .i64 0, .int .i64 0] 24))
  have KR0 := Lib.hid (Cur3.new w (.slice none 0 0) (.int .i64 0) (.int .i64 0) 24)
  clear h
  go_enter Try.func34, Try.ntmps34
  go_wp2_with fail
  refine (curve_any most (by omega) hm9 b a n cap _ (HD0.out.at HS.out)).mono ?_
  rintro e w1 ⟨a1, n1, cap1, zs, p, inc, rfl, hs1, he1, hr1, ok, hx1⟩
  have hsz : (w.alloc (.cells #[.slice none 0 0, .int .i64 0, .int .i64 0] 24)).heap.size = w.heap.size + 1 := by simp
  have hle := he1.size
  rw [hsz] at hle
  have Z1 := Lib.hid (show Zr3 most w b a n cap w1.heap.size a1 n1 cap1 p inc zs (w1.alloc (.cells #[.slice a1 n1 cap1, .int .i64 p, .int .i64 inc] 24)) from
    ⟨(HD0.out.call hs1 he1).alloc _, Cur3.new w1 _ _ _ _, (KR0.out.apart he1 (by omega)).alloc _, hr1.alloc _, ok.good, ⟨⟨⟨by have := ok.few; omega, ok.p8, ok.inc, ok.val⟩, ok.div⟩, fun hf => ⟨ok.slow (fun e => hf ((infC_iff _).2 e)), by obtain ⟨c, h⟩ := ok.twelve (fun e => hf ((infC_iff _).2 e)); exact ⟨c, h.mono (by omega)⟩⟩⟩, fun x hx => by
      have h1 := hx1 x hx
      rw [hsz] at h1
      have h2 := row_lt hr1 (by have := ok_pos ok; have := hr1.len; omega) x hx
      exact ⟨by omega, by omega⟩, by omega, hbl⟩)
  clear hs1 he1 hr1 ok hx1 hsz KR0 HD0
  go_wp2_with fail
  generalize w1.alloc (.cells #[.slice a1 n1 cap1, .int .i64 p, .int .i64 inc] 24) = w2 at Z1 ⊢
  obtain ⟨F, hFe⟩ : ∃ F, w1.heap.size = F := ⟨_, rfl⟩
  rw [hFe] at Z1 hle ⊢
  clear hFe
  go_loopw [] (fun wx => ∃ (a1 : Option Addr) (n1 cap1 p : Nat) (inc : Int) (zs : List Int), Hid (Zr3 most w b a n cap F a1 n1 cap1 p inc zs wx)) (fun wx => zeroOf (wx.cell? ⟨F, 2, none⟩))
  case atStart => exact ⟨a1, n1, cap1, p, inc, zs, Z1⟩
  case round =>
    clear Z1
    obtain ⟨a1, n1, cap1, p, inc, zs, Z2⟩ := hrel
    obtain ⟨w3, rfl⟩ : ∃ u : World, u = wr := ⟨_, rfl⟩
    obtain ⟨c0, c1, c2, f0, f1, f2⟩ := Z2.out.bf
    have hlen := Z2.out.row.len
    have hp1 := Z2.out.good.p1
    have hp3 := Z2.out.good.p3
    have hfw := Z2.out.good.few
    have hcm := Z2.out.row.sm
    obtain ⟨j, hj⟩ : ∃ j, n1 = j + 1 := ⟨n1 - 1, by omega⟩
    obtain ⟨l, hl⟩ : ∃ l, zs.getD j 0 = l := ⟨_, rfl⟩
    obtain ⟨x, rfl, cl⟩ := Z2.out.row.cell j (by omega)
    rw [hl] at cl
    have q1 : (n1 : Int) - 1 = (j : Int) := by omega
    have q2 : (j : Int) < (n1 : Int) := by omega
    have hinf : InfC zs ↔ l = 4611686018427387904 := by rw [infC_iff, hlen, show n1 - 1 = j by omega, hl]
    have HINF := Lib.hid hinf
    by_cases hil : l = 4611686018427387904
    · have hi2 := HINF.out.2 hil
      have hinc := (Z2.out.good.tailI hi2).2
      have t0 : (l == 4611686018427387904) = true := by simpa using hil
      have HINC := Lib.hid hinc
      clear hil hi2 hinf hl hinc hj hlen
      go_wp2_with fail
      clear c0 c1 c2 f0 f1 f2 cl
      refine (n_any 5 (by omega) (by omega) b a n cap _ (Z2.out.held.at HS.out)).mono ?_
      rintro e w4 ⟨r, ⟨hr0, hr1⟩, rfl, hs, he⟩
      have Z3 := Lib.hid (Z2.out.call hs he.apart)
      clear hs he
      go_wp2_with fail
      have R4 := Lib.hid (rowZ_lit w4 [0, 4, 4 + r] 3 (by intro z hz; simp at hz; rcases hz with rfl | rfl | rfl <;> exact ⟨by omega, by omega⟩) (by simp))
      have Z4 := Lib.hid (Z3.out.alloc (.cells #[.int .i64 0, .int .i64 4, .int .i64 (4 + r)] 3))
      have hg1 : w.heap.size < w4.heap.size := by have := Z3.out.bf.lt; have := Z3.out.hF; omega
      have hg2 : F < w4.heap.size := Z3.out.bf.lt
      change Hid (RowZ (w4.alloc (.cells #[.int .i64 0, .int .i64 4, .int .i64 (4 + r)] 3)) (some ⟨w4.heap.size, 0, none⟩) 3 3 [0, 4, 4 + r]) at R4
      generalize w4.alloc (.cells #[.int .i64 0, .int .i64 4, .int .i64 (4 + r)] 3) = w5 at R4 Z4 ⊢
      refine (n_any 2 (by omega) (by omega) b a n cap _ (Z4.out.held.at HS.out)).mono ?_
      rintro e w6 ⟨m, ⟨hm0, hm1⟩, rfl, hs, he⟩
      obtain ⟨P, hP⟩ : ∃ P : Nat, 1 + m = (P : Int) := ⟨(1 + m).toNat, by omega⟩
      obtain ⟨z1, z2⟩ := zero_lit r hr0 hr1 P (by omega)
      have R6 := R4.out.apart he.apart (fun x hx => by cases hx; show ¬ w4.heap.size = b; omega)
      have Z6 := Z4.out.call hs he.apart
      have Z7 := Lib.hid (Z6.put (q := P) (jnc := 8) R6 z1 (sm_lit3 hmT hr0 hr1 (by omega)) (fun x hx => by cases hx; exact ⟨hg1, by show ¬ w4.heap.size = F; omega⟩))
      obtain ⟨c0, c1, c2, f0, f1, f2⟩ := Z6.bf
      have hms : zeroOf (w3.cell? ⟨F, 2, none⟩) = 1 := by rw [Z2.out.bf.c2, HINC.out]; rfl
      have HMS := Lib.hid hms
      clear hs he R6 Z6 z1 z2 Z3 Z4 R4 hms Z2
      go_wp2_with fail
      refine ⟨⟨some ⟨w4.heap.size, 0, none⟩, 3, 3, P, 8, [0, 4, 4 + r], Z7⟩, ?_⟩
      rw [HMS.out, Z7.out.bf.c2]
      decide
    · have hi2 : ¬ InfC zs := fun h => hil (HINF.out.1 h)
      have t0 : (l == 4611686018427387904) = false := by simpa using hil
      obtain ⟨v, hv⟩ : ∃ v, zs.getD 0 0 = v := ⟨_, rfl⟩
      obtain ⟨x', hx', cv⟩ := Z2.out.row.cell 0 (by omega)
      obtain rfl : x = x' := Option.some.inj hx'
      rw [hv, addr_zero] at cv
      have hv0 : 0 ≤ v ∧ v ≤ 1073741824 := by rw [← hv]; exact Z2.out.good.small hi2 (by omega)
      obtain ⟨hv1, hv2⟩ := hv0
      have q3 : (0 : Int) < (n1 : Int) := by omega
      have q4 : 0 < n1 := by omega
      have HV := Lib.hid hv
      have HNI := Lib.hid hi2
      have HL := Lib.hid hlen
      have hn1 : n1 ≤ 400 := by omega
      have hp400 : p ≤ n1 := by omega
      clear hil hi2 hinf hl hj hv hx' hlen HINF
      by_cases hpos : 0 < v
      · obtain ⟨l1, l2, l3, l4⟩ := lt5' Z2.out.bf.lt
        have hF1 := Z2.out.hF
        have hO := Lib.hid (show (w3.alloc (.cells #[] 3)).ownsRow (w.heap.size + 1) 3 1 (.slice (some ⟨w3.heap.size, 0, none⟩) 0 0) 0 [] from World.ownsRow_made w3 #[] 0 (by omega) (Nat.zero_le _) rfl)
        have hN := Lib.hid (newsRow (Z2.out.row.alloc (.cells #[] 3)))
        have hb4 : w.heap.size + 1 ≤ (w3.alloc (.cells #[] 3)).heap.size := by simp; omega
        have HB4 := Lib.hid hb4
        clear hb4
        go_wp2_with (at_builtin; refine wpList_append_lies _ rfl _ _ 22 rfl (w.heap.size + 1) 3 i0 (.int .i64 0) 1 8 Try.underlying22 hi hz0 hz1 hz2 rfl (by decide) (.slice (some ⟨w3.heap.size, 0, none⟩) 0 0) 0 [] rfl hO.out x n1 cap1 (zs.map (Value.int .i64)) rfl ?c1 hN.out ?c2 q4 ?c3 ?c4 HB4.out _ rfl ?_)
        case c1 => rw [List.length_map, Nat.mul_one]; exact HL.out
        case c2 => exact one_ints zs
        case c3 => unfold maxLen; omega
        case c4 => omega
        intro g cap2 w4 hown hgrow hat hlt4
        have hat2 := hatOf hat
        have hge : w3.heap.size ≤ g := by omega
        have hFg : F < g := by omega
        have KF4 := Lib.hid ((Z2.out.bf.alloc (.cells #[] 3)).grownS hgrow (by omega))
        have KR4 := Lib.hid ((Z2.out.br.alloc (.cells #[] 3)).grownS hgrow (by omega))
        have HD4 := Lib.hid ((Z2.out.held.alloc (.cells #[] 3)).grown hbl hgrow (fun j hj => by have e : w3.heap.size = j := Option.some.inj hj; omega))
        have HO4 := Lib.hid hown
        have HGD := Lib.hid Z2.out.good
        have HSM := Lib.hid Z2.out.sm
        clear hown hgrow hat hat2 hlt4 c0 c1 c2 f0 f1 f2 cl cv Z2 hO hN HB4 l1 l2 l3 l4
        obtain ⟨c0, c1, c2, f0, f1, f2⟩ := KF4.out
        go_wp2_with fail
        clear c0 c1 c2 f0 f1 f2
        have hgF : ¬ F = g := by omega
        have hgR : ¬ w.heap.size = g := by omega
        have KF5 := Lib.hid (KF4.out.set0 (.slice (some ⟨g, 0, none⟩) n1 cap2))
        have KR5 := Lib.hid (KR4.out.other (q := F) (by omega) 0 (.slice (some ⟨g, 0, none⟩) n1 cap2))
        have HD5 := Lib.hid (HD4.out.set hbl (p := ⟨F, 0, none⟩) (by show w.heap.size ≤ F; omega) (.slice (some ⟨g, 0, none⟩) n1 cap2))
        have HO5 := Lib.hid (owns_ne HO4.out (p := ⟨F, 0, none⟩) (by show ¬ g = F; omega) (.slice (some ⟨g, 0, none⟩) n1 cap2))
        generalize w4.setCell ⟨F, 0, none⟩ (.slice (some ⟨g, 0, none⟩) n1 cap2) = w5 at KF5 KR5 HD5 HO5 ⊢
        clear KF4 KR4 HD4 HO4
        go_loopw [45] (fun s45 wx => ∃ (k : Nat) (ls : List Int), s45 = .int .i64 k ∧ k ≤ n1 ∧ Hid (ls.length = n1 ∧ ∀ i, i < n1 → ls.getD i 0 = if i < k then zs.getD i 0 - v else zs.getD i 0) ∧
          Hid (wx.ownsRow (w.heap.size + 1) 3 1 (.slice (some ⟨g, 0, none⟩) n1 cap2) n1 (ls.map (Value.int .i64))) ∧ Hid (Cur3 wx F (.slice (some ⟨g, 0, none⟩) n1 cap2) (.int .i64 p) (.int .i64 inc)) ∧
          Hid (Cur3 wx w.heap.size (.slice none 0 0) (.int .i64 0) (.int .i64 0)) ∧ Hid (Held w b a n cap wx)) (fun s45 _ => n1 - (intOf s45).toNat)
        case atStart => exact ⟨0, zs, by go_num, by omega, ⟨HL.out, fun i hi => by rw [if_neg (Nat.not_lt_zero _)]⟩, HO5, KF5, KR5, HD5⟩
        case round =>
          clear KF5 KR5 HD5 HO5
          obtain ⟨k, ls, rfl, hk, HLS, HO6, KF6, KR6, HD6⟩ := hrel
          obtain ⟨w6, rfl⟩ : ∃ u : World, u = wr := ⟨_, rfl⟩
          obtain ⟨c0, c1, c2, f0, f1, f2⟩ := KF6.out
          by_cases hlt : k < n1
          · have hlt' : (k : Int) < (n1 : Int) := by omega
            obtain ⟨z, hz⟩ : ∃ z, ls.getD k 0 = z := ⟨_, rfl⟩
            have hze : z = zs.getD k 0 := by rw [← hz, HLS.out.2 k hlt, if_neg (Nat.lt_irrefl k)]
            have hzb := HGD.out.small HNI.out (i := k) (by rw [HL.out]; exact hlt)
            rw [← hze] at hzb
            obtain ⟨hzb1, hzb2⟩ := hzb
            have ck := owns_cell HO6.out (i := k) (by rw [HLS.out.1]; exact hlt)
            rw [hz] at ck
            have fk := HO6.out.frozenAt k
            have HZE := Lib.hid hze
            clear hz hze
            go_wp2_with fail
            refine ⟨⟨k + 1, ls.set k (z - v), by go_num, by omega, ⟨by rw [List.length_set]; exact HLS.out.1, fun i hi => ?_⟩, ?_, KF6.out.other hgF _ _, KR6.out.other hgR _ _, HD6.out.set hbl (p := ⟨g, k, none⟩) (by show w.heap.size ≤ g; omega) _⟩, by simp [intOf]; omega⟩
            · rw [getD_setB (by rw [HLS.out.1]; exact hi)]
              by_cases he : k = i
              · subst he; rw [if_pos rfl, if_pos (by omega), HZE.out]
              · rw [if_neg he, HLS.out.2 i hi]
                by_cases hik : i < k
                · rw [if_pos hik, if_pos (by omega)]
                · rw [if_neg hik, if_neg (by omega)]
            · rw [List.map_set]; exact (HO6.out.stored k _).1
          · obtain rfl : k = n1 := by omega
            have hlt' : ¬ (k : Int) < (k : Int) := by omega
            obtain ⟨g1, g2, g3⟩ := shift_good HGD.out HNI.out HV.out (HLS.out.1.trans HL.out.symm) (fun i hi => by rw [HL.out] at hi; rw [HLS.out.2 i hi, if_pos hi])
            have hbd : ∀ i, i < ls.length → In64 (ls.getD i 0) := fun i hi => by
              have := g1.small g2 hi; exact ⟨by omega, by omega⟩
            obtain ⟨ar, cr, her, hrr, hfr⟩ := rowZ_of_owns HO6.out (by omega) hbd
            obtain ⟨rfl, rfl⟩ : some ⟨g, 0, none⟩ = ar ∧ cap2 = cr := by simpa using her
            have Z6 := Lib.hid (show Zr3 most w b a n cap F (some ⟨g, 0, none⟩) k cap2 p inc ls w6 from ⟨HD6.out, KF6.out, KR6.out, hrr, g1, sm_shift3 HSM.out HGD.out HNI.out HV.out (HLS.out.1.trans HL.out.symm) (fun i hi => by rw [HL.out] at hi; rw [HLS.out.2 i hi, if_pos hi]), fun x hx => by cases hx; exact ⟨by show w.heap.size < g; omega, by show ¬ g = F; omega⟩, hF1, hbl⟩)
            have G2 := Lib.hid (And.intro g2 g3)
            obtain ⟨d0, d1, d2, e0, e1, e2⟩ := KR6.out
            clear g1 g2 g3 hbd her hrr hfr
            go_wp2_with fail
            exact bodyPost_ret (v := curV (some ⟨g, 0, none⟩) k cap2 p inc) (by simp [results, Try.results34, go_sem, d0, d1, d2, e0, e1, e2]) rfl (Z6.out.post HS.out G2.out.1 G2.out.2)
      · obtain rfl : v = 0 := by omega
        obtain ⟨d0, d1, d2, g0, g1, g2⟩ := Z2.out.br
        go_wp2_with fail
        exact bodyPost_ret (v := curV (some x) n1 cap1 p inc) (by simp [results, Try.results34, go_sem, d0, d1, d2, g0, g1, g2]) rfl (Z2.out.post HS.out HNI.out HV.out)

end Go.Proofs.Ythljhddnfflpjaa

namespace Go.Proofs.Ythljhddnfflpjaa
open Go.RowKit
set_option linter.unusedSimpArgs false
set_option linter.unusedVariables false

theorem day_zero {most : Nat} {zs : List Int} {p : Nat} {inc : Int} (hf : ¬ InfC zs) (h : Sm3 most zs p inc) : Day (eC zs p inc) := by
  obtain ⟨c, hc⟩ := (h.2 hf).2
  refine ⟨most, _, (by rw [encF_eC]; exact hc.mul 2), .inr fun t _ => ?_⟩
  rw [encF_eC, eC_fin hf]
end Go.Proofs.Ythljhddnfflpjaa
