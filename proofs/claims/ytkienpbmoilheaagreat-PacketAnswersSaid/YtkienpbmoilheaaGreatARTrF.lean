/- Broken of the law's reader. By the verifier's side. -/
import Derived.Test.YtkienpbmoilheaaGreatARTrARTrBRTrG
import Derived.Test.YtkienpbmoilheaaGreatATrXTrV
import Derived.Test.YtkienpbmoilheaaGreatATrTTrU
import Derived.Test.YtkienpbmoilheaaGreatABaseApartPickKeepS
namespace Go.Proofs.YtkienpbmoilheaaGreat
open Go.RowKit
set_option linter.unusedSimpArgs false
set_option linter.unusedVariables false

theorem PkO.setF' {u : World} {B off : Nat} {l : List Pk} (h : PkO u B off l) {i : Nat} {q : Pk} (hi : l[i]? = some q) (t : Int) :
    PkO (u.setCell ⟨B, off + i * 3, none⟩ (.int .i64 t)) B off (l.set i ⟨t, q.t, q.s⟩) := by
  obtain ⟨cs, ty, hb, hc⟩ := h
  refine ⟨_, ty, block_set _ _ hb, fun j r hj => ?_⟩
  have hlt := (List.getElem?_eq_some_iff.1 hi).1
  by_cases e : j = i
  · subst e
    rw [List.getElem?_set_self hlt] at hj
    cases hj
    obtain ⟨h1, h2, h3⟩ := hc j _ hi
    have k2 := (Array.getElem?_eq_some_iff.1 h1).1
    refine ⟨?_, ?_, ?_⟩
    · rw [Array.getElem?_setIfInBounds_self_of_lt k2]
    · rw [Array.getElem?_setIfInBounds_ne (by omega)]; exact h2
    · rw [Array.getElem?_setIfInBounds_ne (by omega)]; exact h3
  · rw [List.getElem?_set_ne (fun h => e h.symm)] at hj
    obtain ⟨h1, h2, h3⟩ := hc j r hj
    refine ⟨?_, ?_, ?_⟩ <;> rw [Array.getElem?_setIfInBounds_ne (by omega)] <;> assumption
theorem PkO.setU' {u : World} {B off : Nat} {l : List Pk} (h : PkO u B off l) {i : Nat} {q : Pk} (hi : l[i]? = some q) (t : Int) :
    PkO (u.setCell ⟨B, off + i * 3 + 1, none⟩ (.int .i64 t)) B off (l.set i ⟨q.f, t, q.s⟩) := by
  obtain ⟨cs, ty, hb, hc⟩ := h
  refine ⟨_, ty, block_set _ _ hb, fun j r hj => ?_⟩
  have hlt := (List.getElem?_eq_some_iff.1 hi).1
  by_cases e : j = i
  · subst e
    rw [List.getElem?_set_self hlt] at hj
    cases hj
    obtain ⟨h1, h2, h3⟩ := hc j _ hi
    have k2 := (Array.getElem?_eq_some_iff.1 h2).1
    refine ⟨?_, ?_, ?_⟩
    · rw [Array.getElem?_setIfInBounds_ne (by omega)]; exact h1
    · rw [Array.getElem?_setIfInBounds_self_of_lt k2]
    · rw [Array.getElem?_setIfInBounds_ne (by omega)]; exact h3
  · rw [List.getElem?_set_ne (fun h => e h.symm)] at hj
    obtain ⟨h1, h2, h3⟩ := hc j r hj
    refine ⟨?_, ?_, ?_⟩ <;> rw [Array.getElem?_setIfInBounds_ne (by omega)] <;> assumption
theorem PkO.setS' {u : World} {B off : Nat} {l : List Pk} (h : PkO u B off l) {i : Nat} {q : Pk} (hi : l[i]? = some q) (t : Int) :
    PkO (u.setCell ⟨B, off + i * 3 + 2, none⟩ (.int .i64 t)) B off (l.set i ⟨q.f, q.t, t⟩) := by
  obtain ⟨cs, ty, hb, hc⟩ := h
  refine ⟨_, ty, block_set _ _ hb, fun j r hj => ?_⟩
  have hlt := (List.getElem?_eq_some_iff.1 hi).1
  by_cases e : j = i
  · subst e
    rw [List.getElem?_set_self hlt] at hj
    cases hj
    obtain ⟨h1, h2, h3⟩ := hc j _ hi
    have k2 := (Array.getElem?_eq_some_iff.1 h3).1
    refine ⟨?_, ?_, ?_⟩
    · rw [Array.getElem?_setIfInBounds_ne (by omega)]; exact h1
    · rw [Array.getElem?_setIfInBounds_ne (by omega)]; exact h2
    · rw [Array.getElem?_setIfInBounds_self_of_lt k2]
  · rw [List.getElem?_set_ne (fun h => e h.symm)] at hj
    obtain ⟨h1, h2, h3⟩ := hc j r hj
    refine ⟨?_, ?_, ?_⟩ <;> rw [Array.getElem?_setIfInBounds_ne (by omega)] <;> assumption

theorem set64 {l : List Pk} (h : ∀ q ∈ l, Pk64 q) (i : Nat) {p : Pk} (hp : Pk64 p) : ∀ q ∈ l.set i p, Pk64 q := fun q hq => by
  rcases List.mem_or_eq_of_mem_set hq with c | c
  · exact h q c
  · rw [c]; exact hp
theorem hld13_front {w u v : World} {b : Nat} {a : Option Addr} {n cap : Nat} (h : Hld13 w b a n cap u) (hb : b < w.heap.size) (hv : Below w.heap.size u v) : Hld13 w b a n cap v := by
  obtain ⟨k, hk, hs⟩ := h.src
  exact ⟨⟨k, hk, (hv.block b hb).trans hs⟩, ⟨by rw [hv.os]; exact h.ap.os, by rw [hv.tape]; exact h.ap.tape, by rw [hv.output]; exact h.ap.output, Nat.le_trans h.ap.size hv.size, fun j hj hn => (hv.block j hj).trans (h.ap.block j hj hn)⟩⟩
/-- A broken trace, while it is made. -/
structure Brk (w : World) (b : Nat) (a : Option Addr) (n cap : Nat) (v : Value) (l : List Pk) (wx : World) : Prop where
  own : wx.ownsRow w.heap.size 54 3 v l.length (pkV l)
  hld : Hld13 w b a n cap wx
  bd : ∀ q ∈ l, Pk64 q
theorem Brk.reads {w wx w' : World} {b : Nat} {a : Option Addr} {n cap : Nat} {v : Value} {l : List Pk} (h : Brk w b a n cap v l wx) (hb : b < w.heap.size) (hs : SrcAt w' b a n cap) (ha : Apart b wx w') : Brk w b a n cap v l w' :=
  ⟨owns_apart13 h.own ha hb, h.hld.call hs ha, h.bd⟩
theorem Brk.alloc {w wx : World} {b : Nat} {a : Option Addr} {n cap : Nat} {v : Value} {l : List Pk} (h : Brk w b a n cap v l wx) (o : Obj) : Brk w b a n cap v l (wx.alloc o) := ⟨h.own.alloc o, h.hld.alloc o, h.bd⟩
theorem Brk.slice {w wx : World} {b : Nat} {a : Option Addr} {n cap : Nat} {v : Value} {l : List Pk} (h : Brk w b a n cap v l wx) (h1 : 1 ≤ l.length) : ∃ g c, v = .slice (some ⟨g, 0, none⟩) l.length c ∧ l.length ≤ c ∧ c ≤ 9223372036854775807 ∧ w.heap.size ≤ g ∧ PkO wx g 0 l := by
  obtain ⟨hl, a', c, hv, h2, h3, h4, h5⟩ := pkO_of_owns h.own
  rcases h5 with ⟨_, h0⟩ | ⟨g, hg, hgw, ho⟩
  · omega
  · subst hg; exact ⟨g, c, hv, h2, h3, hgw, ho⟩
/-- The length of a slice. -/
def sliceLen : Value → Nat
  | .slice _ n _ => n
  | _ => 0
/-- A broken trace is handed back. -/
def GivesBrk (b : Nat) (a : Option Addr) (n cap : Nat) (w : World) (e : Ending) (w' : World) : Prop :=
  ∃ l a1 n1 cap1, e = .returned (.slice a1 n1 cap1) ∧ l.length ≤ 62 ∧ SrcAt w' b a n cap ∧ Apart b w w' ∧ PkR w' a1 n1 cap1 l ∧ ∀ x, a1 = some x → w.heap.size ≤ x.block

set_option maxRecDepth 100000 in
set_option maxHeartbeats 6400000 in
theorem broken13 (b : Nat) (ra : Option Addr) (rn rc : Nat) (a : Option Addr) (n cap : Nat) (lp : List Pk) (hn : n ≤ 60) (w : World) (hs : SrcAt w b ra rn rc) (h : PkR w a n cap lp) :
    Calls Tryz.prog 19 #[.pointer (some ⟨b, 0, none⟩), .slice a n cap] w (GivesBrk b ra rn rc w) := by
  have HS := Lib.hid hs
  have H := Lib.hid h
  have hbl := hs.lt
  have hln := h.len
  clear hs h
  go_enter Tryz.func19, Tryz.ntmps19
  go_wp2_with (at_builtin; (refine wpList_append_pk rfl _ _ rfl w.heap.size _ 0 [] rfl (World.ownsRow_made (e := 54) (size := 3) w #[] 0 (Nat.le_refl _) (Nat.zero_le _) rfl) a n cap lp rfl (H.out.under ((Below.refl _ _).alloc (Nat.le_refl _) _)) (by omega) (by simp) ?_))
  intro v1 w1 ho1 hb1
  try simp only [Nat.zero_add, List.nil_append] at ho1
  have HK1 := Lib.hid (show Brk w b ra rn rc v1 lp w1 from ⟨by rw [hln]; exact ho1, hld13_front ((Hld13.start HS.out).alloc _) hbl hb1, H.out.bd⟩)
  obtain ⟨hl, a1, cap1, hv1, g1, g2, g3, g4⟩ := pkO_of_owns ho1
  subst hv1
  have HG := Lib.hid (And.intro (And.intro g1 g2) (And.intro g3 g4))
  clear ho1 hb1 g1 g2 g3 g4 hl
  by_cases hn0 : n = 0
  · subst hn0
    go_wp2_with fail
    go_ret
    exact ⟨lp, a1, 0, cap1, rfl, by omega, HK1.out.hld.at HS.out, HK1.out.hld.ap, ⟨hln, HG.out.1.1, by omega, HG.out.1.2, .inl ⟨rfl, fun _ _ => trivial⟩, HK1.out.bd⟩, HG.out.2.1⟩
  · obtain ⟨g, rfl⟩ : ∃ g, a1 = some ⟨g, 0, none⟩ := by
      rcases HG.out.2.2 with ⟨_, k⟩ | ⟨g, k, _⟩
      · exact absurd k hn0
      · exact ⟨g, k⟩
    have hnI : ¬ (n : Int) = 0 := by omega
    go_wp2_with fail
    refine (n_any (n : Int) (by omega) (by omega) b ra rn rc _ (HK1.out.hld.at HS.out)).mono ?_
    rintro e w2 ⟨i, hi, rfl, hs2, he2⟩
    obtain ⟨m, rfl⟩ := Int.eq_ofNat_of_zero_le hi.1
    have hmn : m < n := by omega
    have hmI : (m : Int) < (n : Int) := by omega
    have HK2 := Lib.hid (HK1.out.reads hbl hs2 he2.apart)
    clear hs2 he2 hi
    go_wp2_with fail
    refine (n_any 4 (by omega) (by omega) b ra rn rc _ (HK2.out.hld.at HS.out)).mono ?_
    rintro e w3 ⟨r, hr, rfl, hs3, he3⟩
    have HK3 := Lib.hid (HK2.out.reads hbl hs3 he3.apart)
    clear hs3 he3
    have hr4 : r = 0 ∨ r = 1 ∨ r = 2 ∨ r = 3 := by omega
    clear hr
    rcases hr4 with rfl | rfl | rfl | rfl
    · go_wp2_with fail
      refine (pick_any w3.heap.size 5 5 (by omega) (by omega) b (by have := HK3.out.hld.lt; omega) ra rn rc _ ((HK3.out.alloc _).hld.at HS.out) (list_new w3 [-1, 0, 6, 59, 60] _ (by decide))).mono ?_
      rintro e w4 ⟨z, hz, rfl, hs4, he4⟩
      have HK4 := Lib.hid ((HK3.out.alloc _).reads hbl hs4 he4)
      have HZ := Lib.hid hz
      clear hs4 he4 hz
      obtain ⟨g', c', hv', hc1, hc2, hgw, ho⟩ := HK4.out.slice (by omega)
      obtain ⟨rfl, rfl⟩ : g = g' ∧ cap1 = c' := by
        injection hv' with e1 e2 e3
        injection e1 with e1
        injection e1 with e1
        exact ⟨e1, e3⟩
      obtain ⟨q, hq⟩ : ∃ q, lp[m]? = some q := ⟨_, List.getElem?_eq_getElem (by omega)⟩
      obtain ⟨k0, k1, k2⟩ := ho.cells m q hq
      have hf := ho.frozen
      have hq64 := HK4.out.bd q (List.mem_of_getElem? hq)
      have hset := ho.setF' hq z
      simp only [Nat.zero_add] at k0 k1 k2 hset
      have HN := Lib.hid (And.intro hset (And.intro (set64 HK4.out.bd m (show Pk64 ⟨z, q.t, q.s⟩ from ⟨HZ.out, hq64.2.1, hq64.2.2⟩)) (And.intro hc1 (And.intro hc2 hgw))))
      clear ho hq hc1 hc2 hgw hset hv' hq64
      go_wp2_with fail
      go_ret
      exact ⟨_, some ⟨g, 0, none⟩, n, cap1, rfl, by rw [List.length_set]; omega, (HK4.out.hld.set hbl (p := ⟨g, m * 3, none⟩) HN.out.2.2.2.2 _).at HS.out, (HK4.out.hld.set hbl (p := ⟨g, m * 3, none⟩) HN.out.2.2.2.2 _).ap, ⟨by rw [List.length_set, hln], by rw [← hln]; exact HN.out.2.2.1, by omega, HN.out.2.2.2.1, .inr ⟨g, 0, rfl, HN.out.1.cells⟩, HN.out.2.1⟩, fun x hx => by cases hx; exact HN.out.2.2.2.2⟩
    · go_wp2_with fail
      refine (pick_any w3.heap.size 5 5 (by omega) (by omega) b (by have := HK3.out.hld.lt; omega) ra rn rc _ ((HK3.out.alloc _).hld.at HS.out) (list_new w3 [-1, 0, 380, 2000, 2001] _ (by decide))).mono ?_
      rintro e w4 ⟨z, hz, rfl, hs4, he4⟩
      have HK4 := Lib.hid ((HK3.out.alloc _).reads hbl hs4 he4)
      have HZ := Lib.hid hz
      clear hs4 he4 hz
      obtain ⟨g', c', hv', hc1, hc2, hgw, ho⟩ := HK4.out.slice (by omega)
      obtain ⟨rfl, rfl⟩ : g = g' ∧ cap1 = c' := by
        injection hv' with e1 e2 e3
        injection e1 with e1
        injection e1 with e1
        exact ⟨e1, e3⟩
      obtain ⟨q, hq⟩ : ∃ q, lp[m]? = some q := ⟨_, List.getElem?_eq_getElem (by omega)⟩
      obtain ⟨k0, k1, k2⟩ := ho.cells m q hq
      have hf := ho.frozen
      have hq64 := HK4.out.bd q (List.mem_of_getElem? hq)
      have hset := ho.setU' hq z
      simp only [Nat.zero_add] at k0 k1 k2 hset
      have HN := Lib.hid (And.intro hset (And.intro (set64 HK4.out.bd m (show Pk64 ⟨q.f, z, q.s⟩ from ⟨hq64.1, HZ.out, hq64.2.2⟩)) (And.intro hc1 (And.intro hc2 hgw))))
      clear ho hq hc1 hc2 hgw hset hv' hq64
      go_wp2_with fail
      go_ret
      exact ⟨_, some ⟨g, 0, none⟩, n, cap1, rfl, by rw [List.length_set]; omega, (HK4.out.hld.set hbl (p := ⟨g, m * 3 + 1, none⟩) HN.out.2.2.2.2 _).at HS.out, (HK4.out.hld.set hbl (p := ⟨g, m * 3 + 1, none⟩) HN.out.2.2.2.2 _).ap, ⟨by rw [List.length_set, hln], by rw [← hln]; exact HN.out.2.2.1, by omega, HN.out.2.2.2.1, .inr ⟨g, 0, rfl, HN.out.1.cells⟩, HN.out.2.1⟩, fun x hx => by cases hx; exact HN.out.2.2.2.2⟩
    · go_wp2_with fail
      refine (pick_any w3.heap.size 5 5 (by omega) (by omega) b (by have := HK3.out.hld.lt; omega) ra rn rc _ ((HK3.out.alloc _).hld.at HS.out) (list_new w3 [0, 1, 1500, 1501, -1] _ (by decide))).mono ?_
      rintro e w4 ⟨z, hz, rfl, hs4, he4⟩
      have HK4 := Lib.hid ((HK3.out.alloc _).reads hbl hs4 he4)
      have HZ := Lib.hid hz
      clear hs4 he4 hz
      obtain ⟨g', c', hv', hc1, hc2, hgw, ho⟩ := HK4.out.slice (by omega)
      obtain ⟨rfl, rfl⟩ : g = g' ∧ cap1 = c' := by
        injection hv' with e1 e2 e3
        injection e1 with e1
        injection e1 with e1
        exact ⟨e1, e3⟩
      obtain ⟨q, hq⟩ : ∃ q, lp[m]? = some q := ⟨_, List.getElem?_eq_getElem (by omega)⟩
      obtain ⟨k0, k1, k2⟩ := ho.cells m q hq
      have hf := ho.frozen
      have hq64 := HK4.out.bd q (List.mem_of_getElem? hq)
      have hset := ho.setS' hq z
      simp only [Nat.zero_add] at k0 k1 k2 hset
      have HN := Lib.hid (And.intro hset (And.intro (set64 HK4.out.bd m (show Pk64 ⟨q.f, q.t, z⟩ from ⟨hq64.1, hq64.2.1, HZ.out⟩)) (And.intro hc1 (And.intro hc2 hgw))))
      clear ho hq hc1 hc2 hgw hset hv' hq64
      go_wp2_with fail
      go_ret
      exact ⟨_, some ⟨g, 0, none⟩, n, cap1, rfl, by rw [List.length_set]; omega, (HK4.out.hld.set hbl (p := ⟨g, m * 3 + 2, none⟩) HN.out.2.2.2.2 _).at HS.out, (HK4.out.hld.set hbl (p := ⟨g, m * 3 + 2, none⟩) HN.out.2.2.2.2 _).ap, ⟨by rw [List.length_set, hln], by rw [← hln]; exact HN.out.2.2.1, by omega, HN.out.2.2.2.1, .inr ⟨g, 0, rfl, HN.out.1.cells⟩, HN.out.2.1⟩, fun x hx => by cases hx; exact HN.out.2.2.2.2⟩
    · go_wp2_with fail
      go_loopw [5] (fun s5 wx => ∃ l' : List Pk, Hid (Brk w b ra rn rc s5 l' wx) ∧ Hid (sliceLen s5 = l'.length ∧ ∃ g c, s5 = .slice (some ⟨g, 0, none⟩) l'.length c) ∧ 1 ≤ l'.length ∧ l'.length ≤ 61) (fun s5 _ => 62 - sliceLen s5)
      case atStart => exact ⟨lp, HK3, ⟨hln.symm, g, cap1, by rw [hln]⟩, by omega, by omega⟩
      case round =>
        obtain ⟨l', HK, HF, hl1, hl2⟩ := hrel
        obtain ⟨wk, rfl⟩ : ∃ u : World, u = wr := ⟨_, rfl⟩
        obtain ⟨g5, c5, hs5⟩ := HF.out.2
        obtain ⟨k, hk⟩ : ∃ k, l'.length = k := ⟨_, rfl⟩
        rw [hk] at hs5 hl1 hl2
        have HKL := Lib.hid hk
        clear hk
        subst hs5
        go_wp2_with fail
        refine (n_any 2 (by omega) (by omega) b ra rn rc _ (HK.out.hld.at HS.out)).mono ?_
        rintro e w5 ⟨r2, hr2, rfl, hs5, he5⟩
        have HK5 := Lib.hid (HK.out.reads hbl hs5 he5.apart)
        clear hs5 he5
        obtain ⟨hr20, hr21⟩ := hr2
        have hwr : IntKind.i64.wrap (60 + r2) = 60 + r2 := IntWalk.i64_in _ ⟨by omega, by omega⟩
        by_cases hlt : (k : Int) < 60 + r2
        · obtain ⟨m2, rfl⟩ : ∃ m2, k = m2 + 1 := ⟨k - 1, by omega⟩
          obtain ⟨g', c', hv', hc1, hc2, hgw, ho⟩ := HK5.out.slice (by rw [HKL.out]; omega)
          obtain ⟨rfl, rfl⟩ : g5 = g' ∧ c5 = c' := by
            injection hv' with e1 e2 e3
            injection e1 with e1
            injection e1 with e1
            exact ⟨e1, e3⟩
          obtain ⟨q, hq⟩ : ∃ q, l'[m2]? = some q := ⟨_, List.getElem?_eq_getElem (by rw [HKL.out]; omega)⟩
          obtain ⟨k0, k1, k2⟩ := ho.cells m2 q hq
          simp only [Nat.zero_add] at k0 k1 k2
          have HQ := Lib.hid (HK5.out.bd q (List.mem_of_getElem? hq))
          have hm2 : (m2 : Int) + 1 < 60 + r2 := by omega
          have hm3 : (m2 : Int) < (m2 : Int) + 1 := by omega
          have hwz : w.heap.size ≤ w5.heap.size := HK5.out.hld.ap.size
          clear ho hq hc1 hc2 hgw hv' hlt
          go_wp2_with (at_builtin; (refine wpList_append_pk rfl _ _ rfl w.heap.size _ _ l' rfl ((HK5.out.alloc _).own) (some ⟨w5.heap.size, 0, none⟩) 1 1 [q] rfl (pkR_one w5 q HQ.out) (by rw [HKL.out]; omega) (by simp; omega) ?_))
          intro v6 w6 ho6 hb6
          have HK6 := Lib.hid (show Brk w b ra rn rc v6 (l' ++ [q]) w6 from ⟨by rw [List.length_append]; exact ho6, hld13_front (HK5.out.alloc _).hld hbl hb6, fun x hx => by
            rcases List.mem_append.1 hx with c | c
            · exact HK5.out.bd x c
            · rw [List.mem_singleton.1 c]; exact HQ.out⟩)
          have HL6 := Lib.hid (show (l' ++ [q]).length = m2 + 1 + 1 from by rw [List.length_append, HKL.out]; rfl)
          obtain ⟨g6, c6, hv6, _⟩ := HK6.out.slice (by rw [HL6.out]; omega)
          subst hv6
          clear ho6 hb6
          go_wp2_with fail
          go_roundw
          case rel => exact ⟨l' ++ [q], HK6, ⟨rfl, g6, c6, rfl⟩, by rw [HL6.out]; omega, by rw [HL6.out]; omega⟩
          case measure => show 62 - (l' ++ [q]).length < 62 - (m2 + 1); rw [HL6.out]; omega
        · go_wp2_with fail
          go_ret
          obtain ⟨g', c', hv', hc1, hc2, hgw, ho⟩ := HK5.out.slice (by rw [HKL.out]; omega)
          rw [HKL.out] at hc1
          obtain ⟨rfl, rfl⟩ : g5 = g' ∧ c5 = c' := by
            injection hv' with e1 e2 e3
            injection e1 with e1
            injection e1 with e1
            exact ⟨e1, e3⟩
          exact ⟨l', some ⟨g5, 0, none⟩, k, c5, rfl, by rw [HKL.out]; omega, HK5.out.hld.at HS.out, HK5.out.hld.ap, ⟨HKL.out, hc1, by omega, hc2, .inr ⟨g5, 0, rfl, ho.cells⟩, HK5.out.bd⟩, fun x hx => by cases hx; exact hgw⟩

end Go.Proofs.YtkienpbmoilheaaGreat
