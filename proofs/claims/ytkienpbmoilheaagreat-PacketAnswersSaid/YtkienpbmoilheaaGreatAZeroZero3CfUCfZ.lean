/- The traces that are drawn, whatever their flows and sizes. By the verifier's side. -/
import Derived.Test.YtkienpbmoilheaaGreatATrPTrQTrR
import Derived.Deep.RegionHeld3
import Derived.OrdersIn
import Derived.TacticsIn
import Derived.RangeFuncCalls
import Derived.Test.YtkienpbmoilheaaGreatATrMAvMAvLPkM
import Derived.Test.YtkienpbmoilheaaGreatAPwA
import Derived.Test.YtkienpbmoilheaaGreatARTrARTrBRTrG
import Derived.Deep.DeepAppendRoom
import Derived.Test.YtkienpbmoilheaaGreatACurBCurV
import Derived.Test.YtkienpbmoilheaaGreatATrXTrV
import Derived.Test.YtkienpbmoilheaaGreatATrTTrU
import Derived.Test.YtkienpbmoilheaaGreatABentE
import Derived.Test.YtkienpbmoilheaaGreatACurMToDecM
import Derived.Test.YtkienpbmoilheaaGreatProg
import Derived.RangeFuncNested
import Derived.RangeFuncBound
import Derived.RangeFuncLeaves
namespace Go.Proofs.YtkienpbmoilheaaGreat
open Go.RowKit
set_option linter.unusedSimpArgs false
set_option linter.unusedVariables false

/-- A drawn trace: at most N packets, in order, within their ranges. -/
structure DrwF (N : Nat) (F M : Int) (l : List Pk) : Prop where
  len : l.length ≤ N
  asc : Asc l
  ok : ∀ q ∈ l, 0 ≤ q.f ∧ q.f < F ∧ 0 ≤ q.t ∧ q.t ≤ 7 * (N : Int) ∧ 1 ≤ q.s ∧ q.s ≤ M
theorem DrwF.vcode {N : Nat} {F M : Int} {l : List Pk} (h : DrwF N F M l) (hN : N ≤ 60) (hF : F ≤ 60) (hM : M ≤ 1500) : vcode l = 0 :=
  vcode_of (Nat.le_trans h.len hN) (fun q hq => (okP_iff q).2 (by have := h.ok q hq; omega)) h.asc
theorem DrwF.bd {N : Nat} {F M : Int} {l : List Pk} (h : DrwF N F M l) (hN : N ≤ 60) (hF : F ≤ 60) (hM : M ≤ 1500) : ∀ q ∈ l, Pk64 q := fun q hq => by
  have := h.ok q hq
  exact ⟨⟨by omega, by omega⟩, ⟨by omega, by omega⟩, ⟨by omega, by omega⟩⟩
/-- While it is drawn: k packets are still to come, the next one at t. -/
def DrwKF (N : Nat) (F M : Int) (k : Nat) (t : Int) (l : List Pk) : Prop := l.length + k ≤ N ∧ Asc l ∧ 0 ≤ t ∧ t ≤ 7 * (l.length : Int) ∧ ∀ q ∈ l, 0 ≤ q.f ∧ q.f < F ∧ 0 ≤ q.t ∧ q.t ≤ t ∧ 1 ≤ q.s ∧ q.s ≤ M
theorem DrwKF.start {N k : Nat} {F M : Int} (h : k ≤ N) : DrwKF N F M k 0 [] := ⟨by simpa using h, asc_nil, by omega, by simp, fun q hq => by cases hq⟩
theorem DrwKF.step {N k : Nat} {F M : Int} {t f s d : Int} {l : List Pk} (h : DrwKF N F M (k + 1) t l) (hf : 0 ≤ f ∧ f < F) (hs : 0 ≤ s ∧ s < M) (hd : 0 ≤ d ∧ d ≤ 7) : DrwKF N F M k (t + d) (l ++ [⟨f, t, 1 + s⟩]) := by
  obtain ⟨h1, h2, h3, h4, h5⟩ := h
  refine ⟨by rw [List.length_append]; simp; omega, asc_append.2 ⟨h2, asc_one _, fun x hx y hy => by rw [List.mem_singleton.1 hy]; exact (h5 x hx).2.2.2.1⟩, by omega, by rw [List.length_append]; simp; omega, fun q hq => ?_⟩
  rcases List.mem_append.1 hq with c | c
  · have := h5 q c; omega
  · have e := List.mem_singleton.1 c
    subst e
    exact ⟨hf.1, by show f < F; omega, h3, by show t ≤ t + d; omega, by show 1 ≤ 1 + s; omega, by show 1 + s ≤ M; omega⟩
theorem DrwKF.fin {N : Nat} {F M : Int} {t : Int} {l : List Pk} (h : DrwKF N F M 0 t l) : DrwF N F M l := by
  obtain ⟨h1, h2, h3, h4, h5⟩ := h
  exact ⟨by omega, h2, fun q hq => by have := h5 q hq; omega⟩
/-- A drawn trace is handed back; of what was there the reader alone has turned. -/
def GivesTrF (N : Nat) (F M : Int) (b : Nat) (a : Option Addr) (n cap : Nat) (w : World) (e : Ending) (w' : World) : Prop :=
  ∃ l a1 n1 cap1, e = .returned (.slice a1 n1 cap1) ∧ DrwF N F M l ∧ SrcAt w' b a n cap ∧ Apart b w w' ∧ PkR w' a1 n1 cap1 l ∧ ∀ x, a1 = some x → w.heap.size ≤ x.block

/-- A drawn trace is handed back; of what was there the reader alone has turned. -/
def GivesTrO (N : Nat) (F M : Int) (b : Nat) (a : Option Addr) (n cap : Nat) (w : World) (e : Ending) (w' : World) : Prop :=
  ∃ l a1 n1 cap1, e = .returned (.slice a1 n1 cap1) ∧ DrwF N F M l ∧ SrcAt w' b a n cap ∧ Apart b w w' ∧ PkR w' a1 n1 cap1 l ∧ (∀ x, a1 = some x → w.heap.size ≤ x.block) ∧ (n1 = 0 ∨ ∃ g, a1 = some ⟨g, 0, none⟩ ∧ w.heap.size ≤ g ∧ PkO w' g 0 l)

set_option maxRecDepth 100000 in
set_option maxHeartbeats 3200000 in
theorem traffic14o (N : Nat) (hN : N ≤ 60) (F M : Int) (hF : 1 ≤ F ∧ F ≤ 60) (hM : 1 ≤ M ∧ M ≤ 1500) (b : Nat) (a : Option Addr) (n cap : Nat) (w : World) (h : SrcAt w b a n cap) :
    Calls Tryz.prog 18 #[.pointer (some ⟨b, 0, none⟩), .int .i64 N, .int .i64 F, .int .i64 M] w (GivesTrO N F M b a n cap w) := by
  obtain ⟨i0, hi, hz0, hz1, hz2⟩ := info_parts info_pk
  have H := Lib.hid h
  have hbl := h.lt
  have HFM := Lib.hid (And.intro hF hM)
  obtain ⟨hF1, hF2⟩ := hF
  obtain ⟨hM1, hM2⟩ := hM
  clear h
  go_enter Tryz.func18, Tryz.ntmps18
  go_wp2_with fail
  refine (n_any ((N : Int) + 1) (by omega) (by omega) b a n cap _ H.out).mono ?_
  rintro e w1 ⟨k0, hk0, rfl, hs1, he1⟩
  obtain ⟨k1, rfl⟩ := Int.eq_ofNat_of_zero_le hk0.1
  have HD := Lib.hid (DrwKF.start (N := N) (F := F) (M := M) (k := k1) (by omega))
  have HS := Lib.hid ((Hld13.start H.out).call hs1 he1.apart)
  have hk1 : k1 ≤ N := by omega
  clear hs1 he1 hk0
  go_wp2_with fail
  go_loopw [9, 10, 11] (fun s9 s10 s11 wx => ∃ (k : Nat) (t : Int) (l : List Pk), s10 = .int .i64 t ∧ s11 = .int .i64 k ∧ k ≤ N ∧ (0 ≤ t ∧ t ≤ 1000) ∧ Hid (DrwKF N F M k t l) ∧ Hid (Hld13 w b a n cap wx) ∧ Hid (wx.ownsRow w.heap.size 54 3 s9 l.length (pkV l))) (fun _ _ s11 _ => (intOf s11).toNat)
  case atStart => exact ⟨k1, 0, [], rfl, rfl, hk1, by omega, HD, HS, World.ownsRow_nil _ _ _ _⟩
  case round =>
    obtain ⟨k, t, l, rfl, rfl, hkN, ⟨ht0, ht1⟩, HK, HW, HO⟩ := hrel
    obtain ⟨wk, rfl⟩ : ∃ u : World, u = wr := ⟨_, rfl⟩
    cases k with
    | zero =>
      go_wp2_with fail
      obtain ⟨hl, a1, c1, hv, h1, h2, h3, h4⟩ := pkO_of_owns (l := l) HO.out
      subst hv
      have HF := Lib.hid HK.out.fin
      go_ret
      refine ⟨l, a1, _, c1, rfl, HF.out, HW.out.at H.out, HW.out.ap, ⟨rfl, h1, by have := HF.out.len; omega, h2, ?_, HF.out.bd hN HFM.out.1.2 HFM.out.2.2⟩, h3, ?_⟩
      · rcases h4 with ⟨_, h0⟩ | ⟨g, ha, _, ho⟩
        · exact .inl ⟨h0, fun _ _ => trivial⟩
        · exact .inr ⟨g, 0, ha, ho.cells⟩
      · rcases h4 with ⟨_, h0⟩ | ⟨g, ha, hb, ho⟩
        · exact .inl h0
        · exact .inr ⟨g, ha, hb, ho⟩
    | succ k =>
      have hkI : (0 : Int) < ((k + 1 : Nat) : Int) := by omega
      have hcast : ((k + 1 : Nat) : Int) = (k : Int) + 1 := by omega
      rw [hcast] at hkI ⊢
      clear hcast
      have hkL : l.length ≤ 60 := by have := HK.out.1; omega
      go_wp2_with fail
      refine (n_any F (by omega) (by omega) b a n cap _ (HW.out.at H.out)).mono ?_
      rintro e w2 ⟨f, hf, rfl, hs2, he2⟩
      have HS2 := Lib.hid (HW.out.call hs2 he2.apart)
      have HO2 := Lib.hid (owns_apart13 HO.out he2.apart hbl)
      clear hs2 he2
      go_wp2_with fail
      refine (n_any M (by omega) (by omega) b a n cap _ (HS2.out.at H.out)).mono ?_
      rintro e w3 ⟨s, hs, rfl, hs3, he3⟩
      have HS3 := Lib.hid (HS2.out.call hs3 he3.apart)
      have HO3 := Lib.hid (owns_apart13 HO2.out he3.apart hbl)
      obtain ⟨hsl, hsr⟩ := hs
      have hws : IntKind.i64.wrap (1 + s) = 1 + s := IntWalk.i64_in _ ⟨by omega, by omega⟩
      have HFS := Lib.hid (And.intro hf (And.intro hsl hsr))
      have hw3 : w.heap.size ≤ w3.heap.size := HS3.out.ap.size
      clear hs3 he3 hf
      go_wp2_with (at_builtin; refine wpList_append_own _ rfl _ _ 25 rfl w.heap.size 54 i0 (.agg #[.int .i64 0, .int .i64 0, .int .i64 0]) 3 24 Tryz.underlying25 hi hz0 hz1 hz2 rfl (by decide) _ _ _ rfl (HO3.out.alloc _) ⟨w3.heap.size, 0, none⟩ 1 1 [.int .i64 f, .int .i64 t, .int .i64 (1 + s)] rfl rfl ?c1 ?c2 ?c3 ?c4 ?c5 ?_)
      case c1 =>
        intro q u hq
        have ea : ((⟨w3.heap.size, 0, none⟩ : Addr).add q) = ⟨w3.heap.size, q, none⟩ := by unfold Addr.add; split <;> simp_all
        rw [ea]
        have hq3 : q < 3 := (List.getElem?_eq_some_iff.1 hq).1
        rcases q with _ | _ | _ | q
        · cases hq; exact cell_new13 rfl
        · cases hq; exact cell_new13 rfl
        · cases hq; exact cell_new13 rfl
        · omega
      case c2 => intro u hu; simp only [List.mem_cons, List.not_mem_nil, or_false] at hu; rcases hu with rfl | rfl | rfl <;> rfl
      case c3 => unfold maxLen; omega
      case c4 => omega
      case c5 => simp; omega
      · intro v' w4 hown' hgrow _
        have HO4 := Lib.hid (show w4.ownsRow w.heap.size 54 3 v' (l ++ [(⟨f, t, 1 + s⟩ : Pk)]).length (pkV (l ++ [(⟨f, t, 1 + s⟩ : Pk)])) from by rw [List.length_append, pkV_append]; exact hown')
        have HW4 := Lib.hid ((HS3.out.alloc (.cells #[.int .i64 f, .int .i64 t, .int .i64 (1 + s)] 54)).grown hbl hgrow (fun j hj => (HO3.out.lt j hj).1))
        have HK4 := Lib.hid (fun d (hd : 0 ≤ d ∧ d ≤ 7) => HK.out.step HFS.out.1 HFS.out.2 hd)
        have hw4 : w.heap.size ≤ w4.heap.size := HW4.out.ap.size
        clear hown' hgrow
        go_wp2_with fail
        refine (pick_of (fun z => 0 ≤ z ∧ z ≤ 7) (fun z hz => ⟨by omega, by omega⟩) w4.heap.size 7 7 (by omega) (by omega) b (by omega) a n cap _ ((HW4.out.alloc _).at H.out) (fun i hi => ?_)).mono ?_
        · have : i = 0 ∨ i = 1 ∨ i = 2 ∨ i = 3 ∨ i = 4 ∨ i = 5 ∨ i = 6 := by omega
          rcases this with rfl | rfl | rfl | rfl | rfl | rfl | rfl
          · exact ⟨0, cell_new13 rfl, by omega⟩
          · exact ⟨0, cell_new13 rfl, by omega⟩
          · exact ⟨0, cell_new13 rfl, by omega⟩
          · exact ⟨1, cell_new13 rfl, by omega⟩
          · exact ⟨1, cell_new13 rfl, by omega⟩
          · exact ⟨2, cell_new13 rfl, by omega⟩
          · exact ⟨7, cell_new13 rfl, by omega⟩
        · rintro e w5 ⟨d, hd, rfl, hs5, ha5⟩
          have HW5 := Lib.hid ((HW4.out.alloc (.cells #[.int .i64 0, .int .i64 0, .int .i64 0, .int .i64 1, .int .i64 1, .int .i64 2, .int .i64 7] 3)).call hs5 ha5)
          have HO5 := Lib.hid (owns_apart13 (HO4.out.alloc (.cells #[.int .i64 0, .int .i64 0, .int .i64 0, .int .i64 1, .int .i64 1, .int .i64 2, .int .i64 7] 3)) ha5 hbl)
          have HK5 := Lib.hid (HK4.out d hd)
          have htd : t ≤ 420 := by have := HK.out.2.2.2.1; omega
          obtain ⟨hd0, hd7⟩ := hd
          clear hs5 ha5
          go_wp2_with fail
          go_roundw
          case rel => exact ⟨k, t + d, _, rfl, by go_num, by omega, by omega, HK5, HW5, HO5⟩
          case measure => first | (simp [intOf]; done) | (simp [intOf]; omega)
/-- The same, without the block. -/
theorem traffic14 (N : Nat) (hN : N ≤ 60) (F M : Int) (hF : 1 ≤ F ∧ F ≤ 60) (hM : 1 ≤ M ∧ M ≤ 1500) (b : Nat) (a : Option Addr) (n cap : Nat) (w : World) (h : SrcAt w b a n cap) :
    Calls Tryz.prog 18 #[.pointer (some ⟨b, 0, none⟩), .int .i64 N, .int .i64 F, .int .i64 M] w (GivesTrF N F M b a n cap w) := by
  refine (traffic14o N hN F M hF hM b a n cap w h).mono ?_
  rintro e w' ⟨l, a1, n1, cap1, he, h1, h2, h3, h4, h5, _⟩
  exact ⟨l, a1, n1, cap1, he, h1, h2, h3, h4, h5⟩
end Go.Proofs.YtkienpbmoilheaaGreat

namespace Go.Proofs.YtkienpbmoilheaaGreat
open Go.RowKit
set_option linter.unusedSimpArgs false

/-- A curve that is short and small. -/
def Sm (zs : List Int) (p : Nat) (inc : Int) : Prop := zs.length ≤ 16 ∧ p ≤ 8 ∧ inc ≤ 1000 ∧ ∀ i, i < zs.length → zs.getD i 0 ≤ 10000 ∨ zs.getD i 0 = infV

/-- Such a curve, with a period that divides 24. -/
def Sm2 (zs : List Int) (p : Nat) (inc : Int) : Prop := Sm zs p inc ∧ 24 % p = 0

theorem addr_zero (x : Addr) : x.add 0 = x := by unfold Addr.add; split <;> simp_all

def zeroOf : Option Value → Nat
  | some (.int _ x) => if x = 0 then 1 else 0
  | _ => 0

theorem zero_lit (r : Int) (h0 : 0 ≤ r) (h5 : r < 5) (p : Nat) (hp : p = 1 ∨ p = 2) : Good [0, 4, 4 + r] p 8 ∧ ¬ InfC [0, 4, 4 + r] := by
  have h : r = 0 ∨ r = 1 ∨ r = 2 ∨ r = 3 ∨ r = 4 := by omega
  rw [infC_iff]
  rcases h with rfl | rfl | rfl | rfl | rfl <;> rcases hp with rfl | rfl <;> exact ⟨(okC_iff _ _ _).1 (by decide), by decide⟩

theorem shift_good {zs ls : List Int} {p : Nat} {inc v : Int} (g : Good zs p inc) (hf : ¬ InfC zs) (hv : zs.getD 0 0 = v) (hl : ls.length = zs.length) (he : ∀ i, i < zs.length → ls.getD i 0 = zs.getD i 0 - v) : Good ls p inc ∧ (¬ InfC ls) ∧ ls.getD 0 0 = 0 := by
  have hp1 := g.p1; have hp3 := g.p3
  have hb : ∀ i, i < zs.length → 0 ≤ zs.getD i 0 - v ∧ zs.getD i 0 - v ≤ 1073741824 := fun i hi => by
    have h1 := g.small hf hi
    have h2 := g.small hf (show 0 < zs.length by omega)
    have h3 := g.le (Nat.zero_le i) hi
    rw [hv] at h2 h3
    omega
  have hlast : ¬ InfC ls := by
    rw [infC_iff, hl, he _ (by omega)]
    have := hb (zs.length - 1) (by omega)
    unfold infV; omega
  refine ⟨⟨by rw [hl]; exact g.few, g.p1, g.p2, by rw [hl]; exact g.p3, g.i0, g.i1, fun i hi => ?_, fun i hi => ?_, fun hx => absurd hx hlast, fun _ => ?_⟩, hlast, ?_⟩
  · rw [hl] at hi; rw [he i hi]; exact .inl (hb i hi)
  · rw [hl] at hi; rw [he i (by omega), he (i + 1) hi]; have := g.mono i hi; omega
  · rw [hl, he _ (by omega), he _ (by omega)]; have := g.tailF hf; omega
  · rw [he 0 (by omega), hv]; omega

theorem sm_lit {r : Int} (h5 : r < 5) {p : Nat} (hp : p = 1 ∨ p = 2) : Sm [0, 4, 4 + r] p 8 := by
  refine ⟨by show 3 ≤ 16; decide, by omega, by decide, fun i hi => .inl ?_⟩
  have h : i = 0 ∨ i = 1 ∨ i = 2 := by have : i < 3 := hi; omega
  rcases h with rfl | rfl | rfl
  · show (0 : Int) ≤ 10000; omega
  · show (4 : Int) ≤ 10000; omega
  · show 4 + r ≤ 10000; omega

theorem sm_shift {zs ls : List Int} {p : Nat} {inc v : Int} (h : Sm zs p inc) (g : Good zs p inc) (hf : ¬ InfC zs) (hv : zs.getD 0 0 = v) (hl : ls.length = zs.length) (he : ∀ i, i < zs.length → ls.getD i 0 = zs.getD i 0 - v) : Sm ls p inc := by
  obtain ⟨h1, h2, h3, h4⟩ := h
  have hp1 := g.p1; have hp3 := g.p3
  refine ⟨by omega, h2, h3, fun i hi => .inl ?_⟩
  rw [hl] at hi
  rw [he i hi]
  have a1 := g.small hf hi
  have a2 := g.small hf (show 0 < zs.length by omega)
  rw [hv] at a2
  rcases h4 i hi with h | h
  · omega
  · rw [h] at a1; unfold infV at a1; omega

theorem sm_lit2 {r : Int} (h5 : r < 5) {p : Nat} (hp : p = 1 ∨ p = 2) : Sm2 [0, 4, 4 + r] p 8 := ⟨sm_lit h5 hp, by rcases hp with rfl | rfl <;> rfl⟩
theorem sm_shift2 {zs ls : List Int} {p : Nat} {inc v : Int} (h : Sm2 zs p inc) (g : Good zs p inc) (hf : ¬ InfC zs) (hv : zs.getD 0 0 = v) (hl : ls.length = zs.length) (he : ∀ i, i < zs.length → ls.getD i 0 = zs.getD i 0 - v) : Sm2 ls p inc := ⟨sm_shift h.1 g hf hv hl he, h.2⟩

theorem newsRow {w : World} {x : Addr} {n cap : Nat} {zs : List Int} (h : RowZ w (some x) n cap zs) : ∀ j u, (zs.map (Value.int .i64))[j]? = some u → w.cell? (x.add j) = some u := by
  intro j u hj
  rw [List.getElem?_map, Option.map_eq_some_iff] at hj
  obtain ⟨z, hz, rfl⟩ := hj
  have hjn : j < zs.length := (List.getElem?_eq_some_iff.1 hz).1
  obtain ⟨x', hx, hc⟩ := h.cell j (by rw [h.len] at hjn; exact hjn)
  obtain rfl : x = x' := Option.some.inj hx
  rw [show zs.getD j 0 = z by simp [List.getD, hz]] at hc
  exact hc

section
variable {w u v : World} {b : Nat} {a : Option Addr} {n cap F : Nat} {a1 : Option Addr} {n1 cap1 p : Nat} {inc : Int} {zs : List Int}
end

end Go.Proofs.YtkienpbmoilheaaGreat

namespace Go.Proofs.YtkienpbmoilheaaGreat
open Go.RowKit
set_option linter.unusedSimpArgs false
set_option linter.unusedVariables false

/-- A curve that is short and small, and if it is finite, slow, and repeats by 12 ticks. -/
def Sm3 (most : Nat) (zs : List Int) (p : Nat) (inc : Int) : Prop := Sm2 zs p inc ∧ (¬ InfC zs → (∀ t, atC zs p inc t ≤ 3 + 9 * (t : Int)) ∧ ∃ c, Per (atC zs p inc) most 12 c)

/-- A finite curve is handed back that is 0 at the tick 0, in memory of the call's own; of the elder blocks only the reader's has turned. -/
def GivesZero3 (most : Nat) (b : Nat) (a : Option Addr) (n cap : Nat) (w : World) (e : Ending) (w' : World) : Prop :=
  ∃ (a' : Option Addr) (n' cap' : Nat) (zs : List Int) (p : Nat) (inc : Int), e = .returned (curV a' n' cap' p inc) ∧ SrcAt w' b a n cap ∧ Apart b w w' ∧ RowZ w' a' n' cap' zs ∧ Good zs p inc ∧ (¬ InfC zs) ∧ zs.getD 0 0 = 0 ∧ Sm3 most zs p inc ∧ ∀ x, a' = some x → w.heap.size ≤ x.block

theorem shift_at {zs ls : List Int} {p : Nat} {inc v : Int} (g : Good zs p inc) (hf : ¬ InfC zs) (k : Good ls p inc) (kf : ¬ InfC ls) (hl : ls.length = zs.length) (he : ∀ i, i < zs.length → ls.getD i 0 = zs.getD i 0 - v) (t : Nat) : atC ls p inc t = atC zs p inc t - v := by
  induction t using Nat.strongRecOn with
  | ind t ih =>
    have h1 := g.p1
    have h3 := g.p3
    by_cases hlt : t < zs.length
    · rw [atC_lt hlt, atC_lt (by omega), he t hlt]
    · have e1 := g.per hf (t - p) (by omega)
      have e2 := k.per kf (t - p) (by omega)
      have := ih (t - p) (by omega)
      rw [show t - p + p = t by omega] at e1 e2
      omega
theorem sm_lit3 {most : Nat} (hm : 2 ≤ most) {r : Int} (h0 : 0 ≤ r) (h5 : r < 5) {p : Nat} (hp : p = 1 ∨ p = 2) : Sm3 most [0, 4, 4 + r] p 8 := by
  refine ⟨sm_lit2 h5 hp, fun hf => ?_⟩
  obtain ⟨g, hf'⟩ := zero_lit r h0 h5 p hp
  refine ⟨slow_of g hf (fun i hi => ?_) (by omega), ?_⟩
  · have h : i = 0 ∨ i = 1 ∨ i = 2 := by have : i < 3 := hi; omega
    rcases h with rfl | rfl | rfl
    · show (0 : Int) ≤ _; omega
    · show (4 : Int) ≤ _; omega
    · show 4 + r ≤ _; omega
  · obtain ⟨c, h⟩ := per12 (g.per hf) g.p1 (by omega)
    exact ⟨c, h.mono (by show 3 - p ≤ most; omega)⟩
theorem sm_shift3 {most : Nat} {zs ls : List Int} {p : Nat} {inc v : Int} (h : Sm3 most zs p inc) (g : Good zs p inc) (hf : ¬ InfC zs) (hv : zs.getD 0 0 = v) (hl : ls.length = zs.length) (he : ∀ i, i < zs.length → ls.getD i 0 = zs.getD i 0 - v) : Sm3 most ls p inc := by
  refine ⟨sm_shift2 h.1 g hf hv hl he, fun kf => ?_⟩
  have k := (shift_good g hf hv hl he).1
  have ea := shift_at g hf k kf hl he
  have v0 : 0 ≤ v := by have := (g.small hf (show 0 < zs.length by have := g.p1; have := g.p3; omega)).1; omega
  obtain ⟨h1, c, h2⟩ := h.2 hf
  exact ⟨fun t => by rw [ea]; have := h1 t; omega, c, fun t ht => by rw [ea, ea]; have := h2 t ht; omega⟩

/-- What stands in Zero: the reader, the curve's box and its list, and the result's box. -/
structure Zr3 (most : Nat) (w : World) (b : Nat) (a : Option Addr) (n cap F : Nat) (a1 : Option Addr) (n1 cap1 p : Nat) (inc : Int) (zs : List Int) (wx : World) : Prop where
  held : Held w b a n cap wx
  bf : Cur3 wx F (.slice a1 n1 cap1) (.int .i64 p) (.int .i64 inc)
  br : Cur3 wx w.heap.size (.slice none 0 0) (.int .i64 0) (.int .i64 0)
  row : RowZ wx a1 n1 cap1 zs
  good : Good zs p inc
  sm : Sm3 most zs p inc
  far : ∀ x, a1 = some x → w.heap.size < x.block ∧ ¬ x.block = F
  hF : w.heap.size < F
  hb : b < w.heap.size

section
variable {most : Nat} {w u v : World} {b : Nat} {a : Option Addr} {n cap F : Nat} {a1 : Option Addr} {n1 cap1 p : Nat} {inc : Int} {zs : List Int}
theorem Zr3.call (h : Zr3 most w b a n cap F a1 n1 cap1 p inc zs u) (hs : SrcAt v b a n cap) (ha : Apart b u v) : Zr3 most w b a n cap F a1 n1 cap1 p inc zs v := by
  have h1 := h.hb; have h2 := h.hF
  exact ⟨h.held.call hs ha, h.bf.apart ha (by omega), h.br.apart ha (by omega), h.row.apart ha (fun x hx => by have := h.far x hx; omega), h.good, h.sm, h.far, h2, h1⟩
theorem Zr3.alloc (h : Zr3 most w b a n cap F a1 n1 cap1 p inc zs u) (o : Obj) : Zr3 most w b a n cap F a1 n1 cap1 p inc zs (u.alloc o) := ⟨h.held.alloc o, h.bf.alloc o, h.br.alloc o, h.row.alloc o, h.good, h.sm, h.far, h.hF, h.hb⟩
/-- Another curve is stored. -/
theorem Zr3.put (h : Zr3 most w b a n cap F a1 n1 cap1 p inc zs u) {a2 : Option Addr} {n2 cap2 q : Nat} {jnc : Int} {ys : List Int} (hr : RowZ u a2 n2 cap2 ys) (g : Good ys q jnc) (hsm : Sm3 most ys q jnc) (hx : ∀ x, a2 = some x → w.heap.size < x.block ∧ ¬ x.block = F) :
    Zr3 most w b a n cap F a2 n2 cap2 q jnc ys (((u.setCell ⟨F, 0, none⟩ (.slice a2 n2 cap2)).setCell ⟨F, 1, none⟩ (.int .i64 q)).setCell ⟨F, 2, none⟩ (.int .i64 jnc)) := by
  have h1 := h.hF
  exact ⟨((h.held.set h.hb (p := ⟨F, 0, none⟩) (Nat.le_of_lt h1) _).set h.hb (p := ⟨F, 1, none⟩) (Nat.le_of_lt h1) _).set h.hb (p := ⟨F, 2, none⟩) (Nat.le_of_lt h1) _, h.bf.set _ _ _,
    ((h.br.other (by omega) _ _).other (by omega) _ _).other (by omega) _ _, ((hr.store (fun x e _ => (hx x e).2) _ _).store (fun x e _ => (hx x e).2) _ _).store (fun x e _ => (hx x e).2) _ _, g, hsm, hx, h1, h.hb⟩
/-- The end: the curve is stored to the result's box, and handed back. -/
theorem Zr3.post (h : Zr3 most w b a n cap F a1 n1 cap1 p inc zs u) (hS : SrcAt w b a n cap) (hf : ¬ InfC zs) (h0 : zs.getD 0 0 = 0) :
    GivesZero3 most b a n cap w (.returned (curV a1 n1 cap1 p inc)) (((u.setCell ⟨w.heap.size, 0, none⟩ (.slice a1 n1 cap1)).setCell ⟨w.heap.size, 1, none⟩ (.int .i64 p)).setCell ⟨w.heap.size, 2, none⟩ (.int .i64 inc)) := by
  have H := ((h.held.set h.hb (p := ⟨w.heap.size, 0, none⟩) (Nat.le_refl _) (.slice a1 n1 cap1)).set h.hb (p := ⟨w.heap.size, 1, none⟩) (Nat.le_refl _) (.int .i64 p)).set h.hb (p := ⟨w.heap.size, 2, none⟩) (Nat.le_refl _) (.int .i64 inc)
  have hx : ∀ x, a1 = some x → w.heap.size < x.block := fun x hx => (h.far x hx).1
  exact ⟨a1, n1, cap1, zs, p, inc, rfl, H.at hS, H.ap, ((h.row.store (fun x h _ => Nat.ne_of_gt (hx x h)) _ _).store (fun x h _ => Nat.ne_of_gt (hx x h)) _ _).store (fun x h _ => Nat.ne_of_gt (hx x h)) _ _, h.good, hf, h0, h.sm, fun x h => Nat.le_of_lt (hx x h)⟩
end

set_option maxRecDepth 100000 in
set_option maxHeartbeats 6400000 in
theorem zero_any3 (most : Nat) (hmT : 2 ≤ most) (hm9 : most ≤ 9) (b : Nat) (a : Option Addr) (n cap : Nat) (w : World) (h : SrcAt w b a n cap) :
    Calls Tryz.prog 9 #[.pointer (some ⟨b, 0, none⟩), .int .i64 most] w (GivesZero3 most b a n cap w) := by
  obtain ⟨i0, hi, hz0, hz1, hz2⟩ := info_parts info_int
  have HS := Lib.hid h
  have hbl := h.lt
  have HD0 := Lib.hid ((Held.start h).alloc (.cells #[.slice none 0 0, .int .i64 0, .int .i64 0] 24))
  have KR0 := Lib.hid (Cur3.new w (.slice none 0 0) (.int .i64 0) (.int .i64 0) 24)
  clear h
  go_enter Tryz.func9, Tryz.ntmps9
  go_wp2_with fail
  refine (curve_any most (by omega) hm9 b a n cap _ (HD0.out.at HS.out)).mono ?_
  rintro e w1 ⟨a1, n1, cap1, zs, p, inc, rfl, hs1, he1, hr1, ok, hx1⟩
  have hsz : (w.alloc (.cells #[.slice none 0 0, .int .i64 0, .int .i64 0] 24)).heap.size = w.heap.size + 1 := by simp
  have hle := he1.size
  rw [hsz] at hle
  have Z1 := Lib.hid (show Zr3 most w b a n cap w1.heap.size a1 n1 cap1 p inc zs (w1.alloc (.cells #[.slice a1 n1 cap1, .int .i64 p, .int .i64 inc] 24)) from
    ⟨(HD0.out.call hs1 he1).alloc _, Cur3.new w1 _ _ _ _, (KR0.out.apart he1 (by omega)).alloc _, hr1.alloc _, ok.good, ⟨⟨⟨by have := ok.few; omega, ok.p8, ok.inc, ok.val⟩, ok.div⟩, fun hf => ⟨ok.slow (fun e => hf ((infC_iff _).2 e)), by obtain ⟨c, h⟩ := ok.twelve (fun e => hf ((infC_iff _).2 e)); exact ⟨c, h.mono (by omega)⟩⟩⟩, fun x hx => by
      have h1 := hx1 x hx
      rw [hsz] at h1
      have h2 := row_lt hr1 (by have := ok_pos ok; have := hr1.len; omega) x hx
      exact ⟨by omega, by omega⟩, by omega, hbl⟩)
  clear hs1 he1 hr1 ok hx1 hsz KR0 HD0
  go_wp2_with fail
  generalize w1.alloc (.cells #[.slice a1 n1 cap1, .int .i64 p, .int .i64 inc] 24) = w2 at Z1 ⊢
  obtain ⟨F, hFe⟩ : ∃ F, w1.heap.size = F := ⟨_, rfl⟩
  rw [hFe] at Z1 hle ⊢
  clear hFe
  go_loopw [] (fun wx => ∃ (a1 : Option Addr) (n1 cap1 p : Nat) (inc : Int) (zs : List Int), Hid (Zr3 most w b a n cap F a1 n1 cap1 p inc zs wx)) (fun wx => zeroOf (wx.cell? ⟨F, 2, none⟩))
  case atStart => exact ⟨a1, n1, cap1, p, inc, zs, Z1⟩
  case round =>
    clear Z1
    obtain ⟨a1, n1, cap1, p, inc, zs, Z2⟩ := hrel
    obtain ⟨w3, rfl⟩ : ∃ u : World, u = wr := ⟨_, rfl⟩
    obtain ⟨c0, c1, c2, f0, f1, f2⟩ := Z2.out.bf
    have hlen := Z2.out.row.len
    have hp1 := Z2.out.good.p1
    have hp3 := Z2.out.good.p3
    have hfw := Z2.out.good.few
    have hcm := Z2.out.row.sm
    obtain ⟨j, hj⟩ : ∃ j, n1 = j + 1 := ⟨n1 - 1, by omega⟩
    obtain ⟨l, hl⟩ : ∃ l, zs.getD j 0 = l := ⟨_, rfl⟩
    obtain ⟨x, rfl, cl⟩ := Z2.out.row.cell j (by omega)
    rw [hl] at cl
    have q1 : (n1 : Int) - 1 = (j : Int) := by omega
    have q2 : (j : Int) < (n1 : Int) := by omega
    have hinf : InfC zs ↔ l = 4611686018427387904 := by rw [infC_iff, hlen, show n1 - 1 = j by omega, hl]
    have HINF := Lib.hid hinf
    by_cases hil : l = 4611686018427387904
    · have hi2 := HINF.out.2 hil
      have hinc := (Z2.out.good.tailI hi2).2
      have t0 : (l == 4611686018427387904) = true := by simpa using hil
      have HINC := Lib.hid hinc
      clear hil hi2 hinf hl hinc hj hlen
      go_wp2_with fail
      clear c0 c1 c2 f0 f1 f2 cl
      refine (n_any 5 (by omega) (by omega) b a n cap _ (Z2.out.held.at HS.out)).mono ?_
      rintro e w4 ⟨r, ⟨hr0, hr1⟩, rfl, hs, he⟩
      have Z3 := Lib.hid (Z2.out.call hs he.apart)
      clear hs he
      go_wp2_with fail
      have R4 := Lib.hid (rowZ_lit w4 [0, 4, 4 + r] 3 (by intro z hz; simp at hz; rcases hz with rfl | rfl | rfl <;> exact ⟨by omega, by omega⟩) (by simp))
      have Z4 := Lib.hid (Z3.out.alloc (.cells #[.int .i64 0, .int .i64 4, .int .i64 (4 + r)] 3))
      have hg1 : w.heap.size < w4.heap.size := by have := Z3.out.bf.lt; have := Z3.out.hF; omega
      have hg2 : F < w4.heap.size := Z3.out.bf.lt
      change Hid (RowZ (w4.alloc (.cells #[.int .i64 0, .int .i64 4, .int .i64 (4 + r)] 3)) (some ⟨w4.heap.size, 0, none⟩) 3 3 [0, 4, 4 + r]) at R4
      generalize w4.alloc (.cells #[.int .i64 0, .int .i64 4, .int .i64 (4 + r)] 3) = w5 at R4 Z4 ⊢
      refine (n_any 2 (by omega) (by omega) b a n cap _ (Z4.out.held.at HS.out)).mono ?_
      rintro e w6 ⟨m, ⟨hm0, hm1⟩, rfl, hs, he⟩
      obtain ⟨P, hP⟩ : ∃ P : Nat, 1 + m = (P : Int) := ⟨(1 + m).toNat, by omega⟩
      obtain ⟨z1, z2⟩ := zero_lit r hr0 hr1 P (by omega)
      have R6 := R4.out.apart he.apart (fun x hx => by cases hx; show ¬ w4.heap.size = b; omega)
      have Z6 := Z4.out.call hs he.apart
      have Z7 := Lib.hid (Z6.put (q := P) (jnc := 8) R6 z1 (sm_lit3 hmT hr0 hr1 (by omega)) (fun x hx => by cases hx; exact ⟨hg1, by show ¬ w4.heap.size = F; omega⟩))
      obtain ⟨c0, c1, c2, f0, f1, f2⟩ := Z6.bf
      have hms : zeroOf (w3.cell? ⟨F, 2, none⟩) = 1 := by rw [Z2.out.bf.c2, HINC.out]; rfl
      have HMS := Lib.hid hms
      clear hs he R6 Z6 z1 z2 Z3 Z4 R4 hms Z2
      go_wp2_with fail
      refine ⟨⟨some ⟨w4.heap.size, 0, none⟩, 3, 3, P, 8, [0, 4, 4 + r], Z7⟩, ?_⟩
      rw [HMS.out, Z7.out.bf.c2]
      decide
    · have hi2 : ¬ InfC zs := fun h => hil (HINF.out.1 h)
      have t0 : (l == 4611686018427387904) = false := by simpa using hil
      obtain ⟨v, hv⟩ : ∃ v, zs.getD 0 0 = v := ⟨_, rfl⟩
      obtain ⟨x', hx', cv⟩ := Z2.out.row.cell 0 (by omega)
      obtain rfl : x = x' := Option.some.inj hx'
      rw [hv, addr_zero] at cv
      have hv0 : 0 ≤ v ∧ v ≤ 1073741824 := by rw [← hv]; exact Z2.out.good.small hi2 (by omega)
      obtain ⟨hv1, hv2⟩ := hv0
      have q3 : (0 : Int) < (n1 : Int) := by omega
      have q4 : 0 < n1 := by omega
      have HV := Lib.hid hv
      have HNI := Lib.hid hi2
      have HL := Lib.hid hlen
      have hn1 : n1 ≤ 400 := by omega
      have hp400 : p ≤ n1 := by omega
      clear hil hi2 hinf hl hj hv hx' hlen HINF
      by_cases hpos : 0 < v
      · obtain ⟨l1, l2, l3, l4⟩ := lt5' Z2.out.bf.lt
        have hF1 := Z2.out.hF
        have hO := Lib.hid (show (w3.alloc (.cells #[] 3)).ownsRow (w.heap.size + 1) 3 1 (.slice (some ⟨w3.heap.size, 0, none⟩) 0 0) 0 [] from World.ownsRow_made w3 #[] 0 (by omega) (Nat.zero_le _) rfl)
        have hN := Lib.hid (newsRow (Z2.out.row.alloc (.cells #[] 3)))
        have hb4 : w.heap.size + 1 ≤ (w3.alloc (.cells #[] 3)).heap.size := by simp; omega
        have HB4 := Lib.hid hb4
        clear hb4
        go_wp2_with (at_builtin; refine wpList_append_lies _ rfl _ _ 22 rfl (w.heap.size + 1) 3 i0 (.int .i64 0) 1 8 Tryz.underlying22 hi hz0 hz1 hz2 rfl (by decide) (.slice (some ⟨w3.heap.size, 0, none⟩) 0 0) 0 [] rfl hO.out x n1 cap1 (zs.map (Value.int .i64)) rfl ?c1 hN.out ?c2 q4 ?c3 ?c4 HB4.out _ rfl ?_)
        case c1 => rw [List.length_map, Nat.mul_one]; exact HL.out
        case c2 => exact one_ints zs
        case c3 => unfold maxLen; omega
        case c4 => omega
        intro g cap2 w4 hown hgrow hat hlt4
        have hat2 := hatOf hat
        have hge : w3.heap.size ≤ g := by omega
        have hFg : F < g := by omega
        have KF4 := Lib.hid ((Z2.out.bf.alloc (.cells #[] 3)).grownS hgrow (by omega))
        have KR4 := Lib.hid ((Z2.out.br.alloc (.cells #[] 3)).grownS hgrow (by omega))
        have HD4 := Lib.hid ((Z2.out.held.alloc (.cells #[] 3)).grown hbl hgrow (fun j hj => by have e : w3.heap.size = j := Option.some.inj hj; omega))
        have HO4 := Lib.hid hown
        have HGD := Lib.hid Z2.out.good
        have HSM := Lib.hid Z2.out.sm
        clear hown hgrow hat hat2 hlt4 c0 c1 c2 f0 f1 f2 cl cv Z2 hO hN HB4 l1 l2 l3 l4
        obtain ⟨c0, c1, c2, f0, f1, f2⟩ := KF4.out
        go_wp2_with fail
        clear c0 c1 c2 f0 f1 f2
        have hgF : ¬ F = g := by omega
        have hgR : ¬ w.heap.size = g := by omega
        have KF5 := Lib.hid (KF4.out.set0 (.slice (some ⟨g, 0, none⟩) n1 cap2))
        have KR5 := Lib.hid (KR4.out.other (q := F) (by omega) 0 (.slice (some ⟨g, 0, none⟩) n1 cap2))
        have HD5 := Lib.hid (HD4.out.set hbl (p := ⟨F, 0, none⟩) (by show w.heap.size ≤ F; omega) (.slice (some ⟨g, 0, none⟩) n1 cap2))
        have HO5 := Lib.hid (owns_ne HO4.out (p := ⟨F, 0, none⟩) (by show ¬ g = F; omega) (.slice (some ⟨g, 0, none⟩) n1 cap2))
        generalize w4.setCell ⟨F, 0, none⟩ (.slice (some ⟨g, 0, none⟩) n1 cap2) = w5 at KF5 KR5 HD5 HO5 ⊢
        clear KF4 KR4 HD4 HO4
        go_loopw [45] (fun s45 wx => ∃ (k : Nat) (ls : List Int), s45 = .int .i64 k ∧ k ≤ n1 ∧ Hid (ls.length = n1 ∧ ∀ i, i < n1 → ls.getD i 0 = if i < k then zs.getD i 0 - v else zs.getD i 0) ∧
          Hid (wx.ownsRow (w.heap.size + 1) 3 1 (.slice (some ⟨g, 0, none⟩) n1 cap2) n1 (ls.map (Value.int .i64))) ∧ Hid (Cur3 wx F (.slice (some ⟨g, 0, none⟩) n1 cap2) (.int .i64 p) (.int .i64 inc)) ∧
          Hid (Cur3 wx w.heap.size (.slice none 0 0) (.int .i64 0) (.int .i64 0)) ∧ Hid (Held w b a n cap wx)) (fun s45 _ => n1 - (intOf s45).toNat)
        case atStart => exact ⟨0, zs, by go_num, by omega, ⟨HL.out, fun i hi => by rw [if_neg (Nat.not_lt_zero _)]⟩, HO5, KF5, KR5, HD5⟩
        case round =>
          clear KF5 KR5 HD5 HO5
          obtain ⟨k, ls, rfl, hk, HLS, HO6, KF6, KR6, HD6⟩ := hrel
          obtain ⟨w6, rfl⟩ : ∃ u : World, u = wr := ⟨_, rfl⟩
          obtain ⟨c0, c1, c2, f0, f1, f2⟩ := KF6.out
          by_cases hlt : k < n1
          · have hlt' : (k : Int) < (n1 : Int) := by omega
            obtain ⟨z, hz⟩ : ∃ z, ls.getD k 0 = z := ⟨_, rfl⟩
            have hze : z = zs.getD k 0 := by rw [← hz, HLS.out.2 k hlt, if_neg (Nat.lt_irrefl k)]
            have hzb := HGD.out.small HNI.out (i := k) (by rw [HL.out]; exact hlt)
            rw [← hze] at hzb
            obtain ⟨hzb1, hzb2⟩ := hzb
            have ck := owns_cell HO6.out (i := k) (by rw [HLS.out.1]; exact hlt)
            rw [hz] at ck
            have fk := HO6.out.frozenAt k
            have HZE := Lib.hid hze
            clear hz hze
            go_wp2_with fail
            refine ⟨⟨k + 1, ls.set k (z - v), by go_num, by omega, ⟨by rw [List.length_set]; exact HLS.out.1, fun i hi => ?_⟩, ?_, KF6.out.other hgF _ _, KR6.out.other hgR _ _, HD6.out.set hbl (p := ⟨g, k, none⟩) (by show w.heap.size ≤ g; omega) _⟩, by simp [intOf]; omega⟩
            · rw [getD_setB (by rw [HLS.out.1]; exact hi)]
              by_cases he : k = i
              · subst he; rw [if_pos rfl, if_pos (by omega), HZE.out]
              · rw [if_neg he, HLS.out.2 i hi]
                by_cases hik : i < k
                · rw [if_pos hik, if_pos (by omega)]
                · rw [if_neg hik, if_neg (by omega)]
            · rw [List.map_set]; exact (HO6.out.stored k _).1
          · obtain rfl : k = n1 := by omega
            have hlt' : ¬ (k : Int) < (k : Int) := by omega
            obtain ⟨g1, g2, g3⟩ := shift_good HGD.out HNI.out HV.out (HLS.out.1.trans HL.out.symm) (fun i hi => by rw [HL.out] at hi; rw [HLS.out.2 i hi, if_pos hi])
            have hbd : ∀ i, i < ls.length → In64 (ls.getD i 0) := fun i hi => by
              have := g1.small g2 hi; exact ⟨by omega, by omega⟩
            obtain ⟨ar, cr, her, hrr, hfr⟩ := rowZ_of_owns HO6.out (by omega) hbd
            obtain ⟨rfl, rfl⟩ : some ⟨g, 0, none⟩ = ar ∧ cap2 = cr := by simpa using her
            have Z6 := Lib.hid (show Zr3 most w b a n cap F (some ⟨g, 0, none⟩) k cap2 p inc ls w6 from ⟨HD6.out, KF6.out, KR6.out, hrr, g1, sm_shift3 HSM.out HGD.out HNI.out HV.out (HLS.out.1.trans HL.out.symm) (fun i hi => by rw [HL.out] at hi; rw [HLS.out.2 i hi, if_pos hi]), fun x hx => by cases hx; exact ⟨by show w.heap.size < g; omega, by show ¬ g = F; omega⟩, hF1, hbl⟩)
            have G2 := Lib.hid (And.intro g2 g3)
            obtain ⟨d0, d1, d2, e0, e1, e2⟩ := KR6.out
            clear g1 g2 g3 hbd her hrr hfr
            go_wp2_with fail
            exact bodyPost_ret (v := curV (some ⟨g, 0, none⟩) k cap2 p inc) (by simp [results, Tryz.results9, go_sem, d0, d1, d2, e0, e1, e2]) rfl (Z6.out.post HS.out G2.out.1 G2.out.2)
      · obtain rfl : v = 0 := by omega
        obtain ⟨d0, d1, d2, g0, g1, g2⟩ := Z2.out.br
        go_wp2_with fail
        exact bodyPost_ret (v := curV (some x) n1 cap1 p inc) (by simp [results, Tryz.results9, go_sem, d0, d1, d2, g0, g1, g2]) rfl (Z2.out.post HS.out HNI.out HV.out)

end Go.Proofs.YtkienpbmoilheaaGreat

namespace Go.Proofs.YtkienpbmoilheaaGreat
open Go.RowKit
set_option linter.unusedSimpArgs false
set_option linter.unusedVariables false

theorem hldZ_below {w u v : World} {b : Nat} {a : Option Addr} {n cap : Nat} (h : Hld13 w b a n cap u) (hb : Below u.heap.size u v) : Hld13 w b a n cap v := by
  obtain ⟨k, hk, hs⟩ := h.src
  exact ⟨⟨k, hk, (hb.block b h.lt).trans hs⟩, h.ap.trans (below_apart hb)⟩
theorem pkR_apartZ {u v : World} {a : Option Addr} {n cap b : Nat} {l : List Pk} (h : PkR u a n cap l) (ha : Apart b u v) (hb : ∀ x, a = some x → ¬ x.block = b) : PkR v a n cap l :=
  ⟨h.len, h.le, h.sm, h.cm, h.place.imp id fun ⟨B, off, he, hc⟩ => ⟨B, off, he, hc.apart ha (hb _ he)⟩, h.bd⟩
end Go.Proofs.YtkienpbmoilheaaGreat
