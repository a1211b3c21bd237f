/- The traces that are drawn, whatever their flows and sizes. By the verifier's side. -/
import Derived.Test.YtkienpbmoilheaaETrR
import Derived.Test.YtkienpbmoilheaaERegI
import Derived.OrdersIn
import Derived.TacticsIn
import Derived.RangeFuncCalls
import Derived.Test.YtkienpbmoilheaaETrM
import Derived.Test.YtkienpbmoilheaaECurMCurN
import Derived.BigQuiet
import Derived.Deep.QuietTactic
import Derived.Test.YtkienpbmoilheaaECurFCurG
import Derived.Test.YtkienpbmoilheaaEBaseApartPickKeepS
import Derived.WalkKit
import Derived.LoopTactic
import Derived.BigRegion
import Derived.Laws.ResultCell
import Derived.Test.YtkienpbmoilheaaEOrdMPwM
import Derived.Deep.RegionWith
import Derived.Shelf.Abstract
import Derived.Test.YtkienpbmoilheaaERTrARTrB
import Derived.Deep.DeepAppendRoom
import Derived.Test.YtkienpbmoilheaaECurBCurV
import Derived.OwnWalkIn
import Derived.Test.YtkienpbmoilheaaETrSTrTTrU
import Derived.Test.YtkienpbmoilheaaETrI
import Derived.Test.YtkienpbmoilheaaProg
import Derived.RangeFuncNested
import Derived.RangeFuncBound
import Derived.RangeFuncLeaves
import Derived.Test.YtkienpbmoilheaaECurSLongKeepC
import Derived.Laws.OwnMore
import Derived.Deep.CutBlock
import Derived.Test.YtkienpbmoilheaaECurveNormalW
import Derived.Test.YtkienpbmoilheaaECurL
import Derived.Deep.RegionHeld3
import Derived.Test.YtkienpbmoilheaaERefV
namespace Go.Proofs.Ytkienpbmoilheaa
open Go.RowKit
set_option linter.unusedSimpArgs false
set_option linter.unusedVariables false

/-- A drawn trace: at most N packets, in order, within their ranges. -/
structure DrwF (N : Nat) (F M : Int) (l : List Pk) : Prop where
  len : l.length ≤ N
  asc : Asc l
  ok : ∀ q ∈ l, 0 ≤ q.f ∧ q.f < F ∧ 0 ≤ q.t ∧ q.t ≤ 7 * (N : Int) ∧ 1 ≤ q.s ∧ q.s ≤ M
theorem DrwF.vcode {N : Nat} {F M : Int} {l : List Pk} (h : DrwF N F M l) (hN : N ≤ 60) (hF : F ≤ 60) (hM : M ≤ 1500) : vcode l = 0 :=
  vcode_of (Nat.le_trans h.len hN) (fun q hq => (okP_iff q).2 (by have := h.ok q hq; omega)) h.asc
theorem DrwF.bd {N : Nat} {F M : Int} {l : List Pk} (h : DrwF N F M l) (hN : N ≤ 60) (hF : F ≤ 60) (hM : M ≤ 1500) : ∀ q ∈ l, Pk64 q := fun q hq => by
  have := h.ok q hq
  exact ⟨⟨by omega, by omega⟩, ⟨by omega, by omega⟩, ⟨by omega, by omega⟩⟩
/-- While it is drawn: k packets are still to come, the next one at t. -/
def DrwKF (N : Nat) (F M : Int) (k : Nat) (t : Int) (l : List Pk) : Prop := l.length + k ≤ N ∧ Asc l ∧ 0 ≤ t ∧ t ≤ 7 * (l.length : Int) ∧ ∀ q ∈ l, 0 ≤ q.f ∧ q.f < F ∧ 0 ≤ q.t ∧ q.t ≤ t ∧ 1 ≤ q.s ∧ q.s ≤ M
theorem DrwKF.start {N k : Nat} {F M : Int} (h : k ≤ N) : DrwKF N F M k 0 [] := ⟨by simpa using h, asc_nil, by omega, by simp, fun q hq => by cases hq⟩
theorem DrwKF.step {N k : Nat} {F M : Int} {t f s d : Int} {l : List Pk} (h : DrwKF N F M (k + 1) t l) (hf : 0 ≤ f ∧ f < F) (hs : 0 ≤ s ∧ s < M) (hd : 0 ≤ d ∧ d ≤ 7) : DrwKF N F M k (t + d) (l ++ [⟨f, t, 1 + s⟩]) := by
  obtain ⟨h1, h2, h3, h4, h5⟩ := h
  refine ⟨by rw [List.length_append]; simp; omega, asc_append.2 ⟨h2, asc_one _, fun x hx y hy => by rw [List.mem_singleton.1 hy]; exact (h5 x hx).2.2.2.1⟩, by omega, by rw [List.length_append]; simp; omega, fun q hq => ?_⟩
  rcases List.mem_append.1 hq with c | c
  · have := h5 q c; omega
  · have e := List.mem_singleton.1 c
    subst e
    exact ⟨hf.1, by show f < F; omega, h3, by show t ≤ t + d; omega, by show 1 ≤ 1 + s; omega, by show 1 + s ≤ M; omega⟩
theorem DrwKF.fin {N : Nat} {F M : Int} {t : Int} {l : List Pk} (h : DrwKF N F M 0 t l) : DrwF N F M l := by
  obtain ⟨h1, h2, h3, h4, h5⟩ := h
  exact ⟨by omega, h2, fun q hq => by have := h5 q hq; omega⟩
/-- A drawn trace is handed back; of what was there the reader alone has turned. -/
def GivesTrF (N : Nat) (F M : Int) (b : Nat) (a : Option Addr) (n cap : Nat) (w : World) (e : Ending) (w' : World) : Prop :=
  ∃ l a1 n1 cap1, e = .returned (.slice a1 n1 cap1) ∧ DrwF N F M l ∧ SrcAt w' b a n cap ∧ Apart b w w' ∧ PkR w' a1 n1 cap1 l ∧ ∀ x, a1 = some x → w.heap.size ≤ x.block

/-- A drawn trace is handed back; of what was there the reader alone has turned. -/
def GivesTrO (N : Nat) (F M : Int) (b : Nat) (a : Option Addr) (n cap : Nat) (w : World) (e : Ending) (w' : World) : Prop :=
  ∃ l a1 n1 cap1, e = .returned (.slice a1 n1 cap1) ∧ DrwF N F M l ∧ SrcAt w' b a n cap ∧ Apart b w w' ∧ PkR w' a1 n1 cap1 l ∧ (∀ x, a1 = some x → w.heap.size ≤ x.block) ∧ (n1 = 0 ∨ ∃ g, a1 = some ⟨g, 0, none⟩ ∧ w.heap.size ≤ g ∧ PkO w' g 0 l)

set_option maxRecDepth 100000 in
set_option maxHeartbeats 3200000 in
theorem traffic14o (N : Nat) (hN : N ≤ 60) (F M : Int) (hF : 1 ≤ F ∧ F ≤ 60) (hM : 1 ≤ M ∧ M ≤ 1500) (b : Nat) (a : Option Addr) (n cap : Nat) (w : World) (h : SrcAt w b a n cap) :
    Calls Try.prog 63 #[.pointer (some ⟨b, 0, none⟩), .int .i64 N, .int .i64 F, .int .i64 M] w (GivesTrO N F M b a n cap w) := by
  obtain ⟨i0, hi, hz0, hz1, hz2⟩ := info_parts info_pk
  have H := Lib.hid h
  have hbl := h.lt
  have HFM := Lib.hid (And.intro hF hM)
  obtain ⟨hF1, hF2⟩ := hF
  obtain ⟨hM1, hM2⟩ := hM
  clear h
  go_enter Try.func63, Try.ntmps63
  go_wp2_with fail
  refine (n_any ((N : Int) + 1) (by omega) (by omega) b a n cap _ H.out).mono ?_
  rintro e w1 ⟨k0, hk0, rfl, hs1, he1⟩
  obtain ⟨k1, rfl⟩ := Int.eq_ofNat_of_zero_le hk0.1
  have HD := Lib.hid (DrwKF.start (N := N) (F := F) (M := M) (k := k1) (by omega))
  have HS := Lib.hid ((Hld13.start H.out).call hs1 he1.apart)
  have hk1 : k1 ≤ N := by omega
  clear hs1 he1 hk0
  go_wp2_with fail
  go_loopw [9, 10, 11] (fun s9 s10 s11 wx => ∃ (k : Nat) (t : Int) (l : List Pk), s10 = .int .i64 t ∧ s11 = .int .i64 k ∧ k ≤ N ∧ (0 ≤ t ∧ t ≤ 1000) ∧ Hid (DrwKF N F M k t l) ∧ Hid (Hld13 w b a n cap wx) ∧ Hid (wx.ownsRow w.heap.size 103 3 s9 l.length (pkV l))) (fun _ _ s11 _ => (intOf s11).toNat)
  case atStart => exact ⟨k1, 0, [], rfl, rfl, hk1, by omega, HD, HS, World.ownsRow_nil _ _ _ _⟩
  case round =>
    obtain ⟨k, t, l, rfl, rfl, hkN, ⟨ht0, ht1⟩, HK, HW, HO⟩ := hrel
    obtain ⟨wk, rfl⟩ : ∃ u : World, u = wr := ⟨_, rfl⟩
    cases k with
    | zero =>
      go_wp2_with fail
      obtain ⟨hl, a1, c1, hv, h1, h2, h3, h4⟩ := pkO_of_owns (l := l) HO.out
      subst hv
      have HF := Lib.hid HK.out.fin
      go_ret
      refine ⟨l, a1, _, c1, rfl, HF.out, HW.out.at H.out, HW.out.ap, ⟨rfl, h1, by have := HF.out.len; omega, h2, ?_, HF.out.bd hN HFM.out.1.2 HFM.out.2.2⟩, h3, ?_⟩
      · rcases h4 with ⟨_, h0⟩ | ⟨g, ha, _, ho⟩
        · exact .inl ⟨h0, fun _ _ => trivial⟩
        · exact .inr ⟨g, 0, ha, ho.cells⟩
      · rcases h4 with ⟨_, h0⟩ | ⟨g, ha, hb, ho⟩
        · exact .inl h0
        · exact .inr ⟨g, ha, hb, ho⟩
    | succ k =>
      have hkI : (0 : Int) < ((k + 1 : Nat) : Int) := by omega
      have hcast : ((k + 1 : Nat) : Int) = (k : Int) + 1 := by omega
      rw [hcast] at hkI ⊢
      clear hcast
      have hkL : l.length ≤ 60 := by have := HK.out.1; omega
      go_wp2_with fail
      refine (n_any F (by omega) (by omega) b a n cap _ (HW.out.at H.out)).mono ?_
      rintro e w2 ⟨f, hf, rfl, hs2, he2⟩
      have HS2 := Lib.hid (HW.out.call hs2 he2.apart)
      have HO2 := Lib.hid (owns_apart13 HO.out he2.apart hbl)
      clear hs2 he2
      go_wp2_with fail
      refine (n_any M (by omega) (by omega) b a n cap _ (HS2.out.at H.out)).mono ?_
      rintro e w3 ⟨s, hs, rfl, hs3, he3⟩
      have HS3 := Lib.hid (HS2.out.call hs3 he3.apart)
      have HO3 := Lib.hid (owns_apart13 HO2.out he3.apart hbl)
      obtain ⟨hsl, hsr⟩ := hs
      have hws : IntKind.i64.wrap (1 + s) = 1 + s := IntWalk.i64_in _ ⟨by omega, by omega⟩
      have HFS := Lib.hid (And.intro hf (And.intro hsl hsr))
      have hw3 : w.heap.size ≤ w3.heap.size := HS3.out.ap.size
      clear hs3 he3 hf
      go_wp2_with (at_builtin; refine wpList_append_own _ rfl _ _ 71 rfl w.heap.size 103 i0 (.agg #[.int .i64 0, .int .i64 0, .int .i64 0]) 3 24 Try.underlying71 hi hz0 hz1 hz2 rfl (by decide) _ _ _ rfl (HO3.out.alloc _) ⟨w3.heap.size, 0, none⟩ 1 1 [.int .i64 f, .int .i64 t, .int .i64 (1 + s)] rfl rfl ?c1 ?c2 ?c3 ?c4 ?c5 ?_)
      case c1 =>
        intro q u hq
        have ea : ((⟨w3.heap.size, 0, none⟩ : Addr).add q) = ⟨w3.heap.size, q, none⟩ := by unfold Addr.add; split <;> simp_all
        rw [ea]
        have hq3 : q < 3 := (List.getElem?_eq_some_iff.1 hq).1
        rcases q with _ | _ | _ | q
        · cases hq; exact cell_new13 rfl
        · cases hq; exact cell_new13 rfl
        · cases hq; exact cell_new13 rfl
        · omega
      case c2 => intro u hu; simp only [List.mem_cons, List.not_mem_nil, or_false] at hu; rcases hu with rfl | rfl | rfl <;> rfl
      case c3 => unfold maxLen; omega
      case c4 => omega
      case c5 => simp; omega
      · intro v' w4 hown' hgrow _
        have HO4 := Lib.hid (show w4.ownsRow w.heap.size 103 3 v' (l ++ [(⟨f, t, 1 + s⟩ : Pk)]).length (pkV (l ++ [(⟨f, t, 1 + s⟩ : Pk)])) from by rw [List.length_append, pkV_append]; exact hown')
        have HW4 := Lib.hid ((HS3.out.alloc (.cells #[.int .i64 f, .int .i64 t, .int .i64 (1 + s)] 103)).grown hbl hgrow (fun j hj => (HO3.out.lt j hj).1))
        have HK4 := Lib.hid (fun d (hd : 0 ≤ d ∧ d ≤ 7) => HK.out.step HFS.out.1 HFS.out.2 hd)
        have hw4 : w.heap.size ≤ w4.heap.size := HW4.out.ap.size
        clear hown' hgrow
        go_wp2_with fail
        refine (pick_of (fun z => 0 ≤ z ∧ z ≤ 7) (fun z hz => ⟨by omega, by omega⟩) w4.heap.size 7 7 (by omega) (by omega) b (by omega) a n cap _ ((HW4.out.alloc _).at H.out) (fun i hi => ?_)).mono ?_
        · have : i = 0 ∨ i = 1 ∨ i = 2 ∨ i = 3 ∨ i = 4 ∨ i = 5 ∨ i = 6 := by omega
          rcases this with rfl | rfl | rfl | rfl | rfl | rfl | rfl
          · exact ⟨0, cell_new13 rfl, by omega⟩
          · exact ⟨0, cell_new13 rfl, by omega⟩
          · exact ⟨0, cell_new13 rfl, by omega⟩
          · exact ⟨1, cell_new13 rfl, by omega⟩
          · exact ⟨1, cell_new13 rfl, by omega⟩
          · exact ⟨2, cell_new13 rfl, by omega⟩
          · exact ⟨7, cell_new13 rfl, by omega⟩
        · rintro e w5 ⟨d, hd, rfl, hs5, ha5⟩
          have HW5 := Lib.hid ((HW4.out.alloc (.cells #[.int .i64 0, .int .i64 0, .int .i64 0, .int .i64 1, .int .i64 1, .int .i64 2, .int .i64 7] 3)).call hs5 ha5)
          have HO5 := Lib.hid (owns_apart13 (HO4.out.alloc (.cells #[.int .i64 0, .int .i64 0, .int .i64 0, .int .i64 1, .int .i64 1, .int .i64 2, .int .i64 7] 3)) ha5 hbl)
          have HK5 := Lib.hid (HK4.out d hd)
          have htd : t ≤ 420 := by have := HK.out.2.2.2.1; omega
          obtain ⟨hd0, hd7⟩ := hd
          clear hs5 ha5
          go_wp2_with fail
          go_roundw
          case rel => exact ⟨k, t + d, _, rfl, by go_num, by omega, by omega, HK5, HW5, HO5⟩
          case measure => first | (simp [intOf]; done) | (simp [intOf]; omega)
/-- The same, without the block. -/
theorem traffic14 (N : Nat) (hN : N ≤ 60) (F M : Int) (hF : 1 ≤ F ∧ F ≤ 60) (hM : 1 ≤ M ∧ M ≤ 1500) (b : Nat) (a : Option Addr) (n cap : Nat) (w : World) (h : SrcAt w b a n cap) :
    Calls Try.prog 63 #[.pointer (some ⟨b, 0, none⟩), .int .i64 N, .int .i64 F, .int .i64 M] w (GivesTrF N F M b a n cap w) := by
  refine (traffic14o N hN F M hF hM b a n cap w h).mono ?_
  rintro e w' ⟨l, a1, n1, cap1, he, h1, h2, h3, h4, h5, _⟩
  exact ⟨l, a1, n1, cap1, he, h1, h2, h3, h4, h5⟩
end Go.Proofs.Ytkienpbmoilheaa

namespace Go.Proofs.Ytkienpbmoilheaa
open Go.RowKit
set_option linter.unusedSimpArgs false
set_option linter.unusedVariables false

theorem hldZ_below {w u v : World} {b : Nat} {a : Option Addr} {n cap : Nat} (h : Hld13 w b a n cap u) (hb : Below u.heap.size u v) : Hld13 w b a n cap v := by
  obtain ⟨k, hk, hs⟩ := h.src
  exact ⟨⟨k, hk, (hb.block b h.lt).trans hs⟩, h.ap.trans (below_apart hb)⟩
theorem pkR_apartZ {u v : World} {a : Option Addr} {n cap b : Nat} {l : List Pk} (h : PkR u a n cap l) (ha : Apart b u v) (hb : ∀ x, a = some x → ¬ x.block = b) : PkR v a n cap l :=
  ⟨h.len, h.le, h.sm, h.cm, h.place.imp id fun ⟨B, off, he, hc⟩ => ⟨B, off, he, hc.apart ha (hb _ he)⟩, h.bd⟩
end Go.Proofs.Ytkienpbmoilheaa
