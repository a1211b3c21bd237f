/- Delays of package packet. By the verifier's side. -/
import Derived.Test.YthljhddnfflpjaaCPk1
import Derived.Test.YthljhddnfflpjaaCCurCCurDCurE
namespace Go.Proofs.Ythljhddnfflpjaa
open Go.RowKit
set_option linter.unusedSimpArgs false
set_option linter.unusedVariables false

/-- A block whose first N cells are numbers. -/
def IntO (W : World) (M N : Nat) (F : Nat → Int) : Prop := ∃ cs, W.heap[M]? = some (.cells cs 3 (0, 0)) ∧ N ≤ cs.size ∧ ∀ k, k < N → cs[k]? = some (.int .i64 (F k))
section
variable {W V : World} {M N : Nat} {F G : Nat → Int}
theorem IntO.lt (h : IntO W M N F) : M < W.heap.size := by obtain ⟨cs, h1, _⟩ := h; exact (Array.getElem?_eq_some_iff.1 h1).1
theorem IntO.cell (h : IntO W M N F) {k : Nat} (hk : k < N) : W.cell? ⟨M, k, none⟩ = some (.int .i64 (F k)) := by
  obtain ⟨cs, h1, h2, h3⟩ := h
  rw [← h3 k hk]; simp [World.cell?, h1]
theorem IntO.frozen (h : IntO W M N F) (o : Nat) : W.frozen? ⟨M, o, none⟩ = false := by
  obtain ⟨cs, h1, h2, h3⟩ := h
  simp [World.frozen?, h1]
theorem IntO.of_block (h : IntO W M N F) (hb : V.heap[M]? = W.heap[M]?) : IntO V M N F := by obtain ⟨cs, h1, h2⟩ := h; exact ⟨cs, hb.trans h1, h2⟩
theorem IntO.under (h : IntO W M N F) (hb : Below W.heap.size W V) : IntO V M N F := h.of_block (hb.block _ h.lt)
theorem IntO.congr (h : IntO W M N F) (he : ∀ k, k < N → F k = G k) : IntO W M N G := by obtain ⟨cs, h1, h2, h3⟩ := h; exact ⟨cs, h1, h2, fun k hk => by rw [h3 k hk, he k hk]⟩
theorem IntO.set (h : IntO W M N F) {j : Nat} (hj : j < N) (v : Int) : IntO (W.setCell ⟨M, j, none⟩ (.int .i64 v)) M N (fun k => if k = j then v else F k) := by
  obtain ⟨cs, h1, h2, h3⟩ := h
  refine ⟨cs.setIfInBounds j (.int .i64 v), by simp [World.setCell, Array.getElem?_modify, h1], by simpa using h2, fun k hk => ?_⟩
  show _ = some (Value.int .i64 (if k = j then v else F k))
  by_cases e : k = j
  · subst e; rw [if_pos rfl, Array.getElem?_setIfInBounds_self_of_lt (by omega)]
  · rw [if_neg e, Array.getElem?_setIfInBounds_ne (fun h => e h.symm)]; exact h3 k hk
theorem IntO.row {cap : Nat} (h : IntO W M N F) (h1 : N ≤ cap) (h2 : cap ≤ 9223372036854775807) (h3 : N ≤ 1000000) {zs : List Int} (hl : zs.length = N) (hz : ∀ k, k < N → zs.getD k 0 = F k) (hb : ∀ k, k < N → In64 (F k)) : RowZ W (some ⟨M, 0, none⟩) N cap zs :=
  ⟨hl, h1, by omega, h2, fun i hi => ⟨_, rfl, by
    have ea : ((⟨M, 0, none⟩ : Addr).add i) = ⟨M, i, none⟩ := by unfold Addr.add; split <;> simp_all
    rw [ea, hz i hi]; exact h.cell hi⟩, fun i hi => by rw [hz i hi]; exact hb i hi⟩
end
theorem intO_of_owns {w : World} {base n : Nat} {v : Value} {zs : List Int} (h : w.ownsRow base 3 1 v n (zs.map (Value.int .i64))) :
    zs.length = n ∧ ∃ a cap, v = .slice a n cap ∧ n ≤ cap ∧ cap ≤ 9223372036854775807 ∧ (a = none ∧ n = 0 ∨ ∃ g, a = some ⟨g, 0, none⟩ ∧ base ≤ g ∧ IntO w g n (fun k => zs.getD k 0)) := by
  obtain ⟨hl, hr⟩ := h
  rw [List.length_map, Nat.mul_one] at hl
  refine ⟨hl, ?_⟩
  rcases hr with ⟨rfl, h0⟩ | ⟨g, cap, cur, rfl, hbase, hg, hnc, hcm, hsz, htake⟩
  · exact ⟨none, 0, by rw [h0], by omega, by omega, .inl ⟨rfl, h0⟩⟩
  · refine ⟨some ⟨g, 0, none⟩, cap, rfl, hnc, by unfold maxLen at hcm; omega, .inr ⟨g, rfl, hbase, cur, hg, by omega, fun k hk => ?_⟩⟩
    have h1 : (zs.map (Value.int .i64))[k]? = some (.int .i64 (zs.getD k 0)) := by
      rw [List.getElem?_map, List.getD_eq_getElem?_getD, List.getElem?_eq_getElem (by omega)]; rfl
    rw [← htake, List.getElem?_take, if_pos (by omega)] at h1
    simpa using h1

set_option maxRecDepth 100000 in
set_option maxHeartbeats 800000 in
/-- A copy of numbers that is a row of one's own. -/
theorem clone15 (a : Option Addr) (n cap : Nat) (zs : List Int) (w : World) (h : RowZ w a n cap zs) (hn : n ≤ 1000000) :
    Calls Try.prog 218 #[.slice a n cap] w fun e w' => ∃ v, e = .returned v ∧ w'.ownsRow w.heap.size 3 1 v n (zs.map (Value.int .i64)) ∧ Below w.heap.size w w' := by
  obtain ⟨i0, hi, hz0, hz1, hz2⟩ := info_parts info_int
  have H := Lib.hid h
  clear h
  cases a with
  | none =>
    obtain rfl : n = 0 := by
      rcases Nat.eq_zero_or_pos n with h0 | h0
      · exact h0
      · obtain ⟨x, hx, _⟩ := H.out.cell 0 h0; cases hx
    have hl0 : zs = [] := List.length_eq_zero_iff.1 H.out.len
    subst hl0
    have hnil := fun (w : World) => Lib.run_eql_slice_nil (P := Try.prog) w 22 3 none 0 cap 0 0 Try.underlying22
    go_enter Try.func218, Try.ntmps218
    go_wp2_with fail
    go_ret
    exact ⟨_, rfl, World.ownsRow_nil _ _ _ _, Below.refl _ _⟩
  | some x =>
    have hnil := fun (w : World) => Lib.run_eql_slice_nil (P := Try.prog) w 22 3 (some x) n cap 0 0 Try.underlying22
    go_enter Try.func218, Try.ntmps218
    go_wp2_with (at_builtin; refine wpList_append_own _ rfl _ _ 22 rfl w.heap.size 3 i0 (.int .i64 0) 1 8 Try.underlying22 hi hz0 hz1 hz2 rfl (by decide) _ _ _ rfl (World.ownsRow_made w #[] 0 (Nat.le_refl _) (Nat.zero_le _) rfl) x n cap (zs.map (Value.int .i64)) rfl ?cl ?c1 ?c2 ?c3 ?c4 ?c5 ?_)
    case cl => rw [List.length_map, Nat.mul_one]; exact H.out.len
    case c1 =>
      intro j u hj
      rw [List.getElem?_map, Option.map_eq_some_iff] at hj
      obtain ⟨z, hz, rfl⟩ := hj
      have hjn : j < zs.length := (List.getElem?_eq_some_iff.1 hz).1
      obtain ⟨x', hx, hc⟩ := (H.out.alloc _).cell j (by rw [H.out.len] at hjn; exact hjn)
      obtain rfl : x = x' := Option.some.inj hx
      rw [show zs.getD j 0 = z by simp [List.getD, hz]] at hc
      exact hc
    case c2 => intro u hu; simp at hu; obtain ⟨z, _, rfl⟩ := hu; rfl
    case c3 => unfold maxLen; omega
    case c4 => omega
    case c5 => simp
    · intro v' w1 hown' hgrow _
      have HO := Lib.hid hown'
      have HG := Lib.hid hgrow
      clear hown' hgrow
      go_wp2_with fail
      go_ret
      exact ⟨_, rfl, by first | exact HO.out | (have := HO.out; simpa using this), ((Below.refl _ _).alloc (Nat.le_refl _) _).grown HG.out (by simp) (fun j hj => by cases hj; exact Nat.le_refl _)⟩

/-- The delay of the packet at a place. -/
def delAt (l : List Pk) (D : List Int) (i : Nat) : Int := if D.getD i 0 = -1 then -1 else D.getD i 0 - (l.getD i default).t
def delX (l : List Pk) (D : List Int) : List Int := if dcode l D = 0 then (List.range l.length).map (delAt l D) else []
theorem delX_at {l : List Pk} {D : List Int} (h : dcode l D = 0) {i : Nat} (hi : i < l.length) : (delX l D).getD i 0 = delAt l D i := by
  unfold delX
  rw [if_pos h, List.getD_eq_getElem?_getD, List.getElem?_map, List.getElem?_range hi]; rfl
/-- A list of numbers and an error are handed back. -/
def GivesIE (zs : List Int) (c : Int) (w : World) (e : Ending) (w' : World) : Prop :=
  ∃ a n cap, e = .returned (.tuple #[.slice a n cap, .int .i64 c]) ∧ Below w.heap.size w w' ∧ RowZ w' a n cap zs ∧ ∀ x, a = some x → w.heap.size ≤ x.block
theorem row_nil15 (w : World) (c : Nat) (hc : c ≤ 9223372036854775807) (a : Option Addr) : RowZ w a 0 c [] := ⟨rfl, Nat.zero_le _, Nat.zero_le _, hc, fun i hi => absurd hi (Nat.not_lt_zero _), fun i hi => absurd hi (Nat.not_lt_zero _)⟩

set_option maxRecDepth 100000 in
set_option maxHeartbeats 3200000 in
theorem delays15 (a : Option Addr) (n cap : Nat) (l : List Pk) (ad : Option Addr) (nd cd : Nat) (D : List Int) (w : World) (h : PkR w a n cap l) (h2 : RowZ w ad nd cd D) :
    Calls Try.prog 180 #[.slice a n cap, .slice ad nd cd] w (GivesIE (delX l D) (dcode l D) w) := by
  have H := Lib.hid h
  have R := Lib.hid h2
  have hlen := h.len
  have hnd := h2.len
  obtain ⟨c, hc⟩ : ∃ c, dcode l D = c := ⟨_, rfl⟩
  have HC := Lib.hid hc
  rw [hc]
  clear h h2 hc
  by_cases hc0 : c = 0
  · subst hc0
    have hd := HC.out
    unfold dcode at hd
    have hv : vcode l = 0 := by
      split at hd
      · assumption
      · rename_i hn; exact absurd hd hn
    rw [if_pos hv] at hd
    have hl : D.length = l.length := by
      split at hd
      · assumption
      · cases hd
    rw [if_pos hl] at hd
    have hn60 : n ≤ 60 := by rw [← hlen]; exact (vcode_ok hv).1
    obtain rfl : nd = n := by omega
    have HDB := Lib.hid (show ∀ i, i < nd → D.getD i 0 ≤ 1999 ∧ -1 ≤ D.getD i 0 ∧ 0 ≤ (l.getD i default).t ∧ (l.getD i default).t ≤ 2000 from fun i hi => by
      have h3 := (okP_iff _).1 ((vcode_ok hv).2.1 (l.getD i default) (by rw [List.getD_eq_getElem?_getD, List.getElem?_eq_getElem (by omega)]; exact List.getElem_mem _))
      rcases dgo_ok l D hl.symm hd i (by omega) with h1 | ⟨h1, h2⟩ <;> omega)
    have HLN := Lib.hid hlen
    clear hv hl hd hlen hnd
    go_enter Try.func180, Try.ntmps180
    go_wp2_with fail
    refine (fault15 a nd cap l ad nd cd D 0 HC.out _ H.out R.out).mono ?_
    rintro e w1 ⟨rfl, hb1⟩
    have B1 := Lib.hid hb1
    clear hb1
    go_wp2_with fail
    refine (clone15 ad nd cd D _ (R.out.under B1.out) (by omega)).mono ?_
    rintro e w2 ⟨v, rfl, ho, hb2⟩
    obtain ⟨_, a2, c2, rfl, hc1, hc2, hg⟩ := intO_of_owns ho
    have B2 := Lib.hid (B1.out.trans (hb2.mono B1.out.size))
    have hsz1 := B1.out.size
    have HG := Lib.hid (show nd = 0 ∨ ∃ g, a2 = some ⟨g, 0, none⟩ ∧ w.heap.size ≤ g ∧ IntO w2 g nd (fun k => if k < 0 then delAt l D k else D.getD k 0) from by
      rcases hg with ⟨_, h0⟩ | ⟨g, ha, hgw, ho⟩
      · exact .inl h0
      · exact .inr ⟨g, ha, by omega, ho.congr fun k _ => by rw [if_neg (by omega)]⟩)
    have HX2 := Lib.hid (show ∀ x, a2 = some x → w.heap.size ≤ x.block from fun x hx => by
      rcases hg with ⟨h0, _⟩ | ⟨g, ha, hgw, _⟩
      · rw [h0] at hx; cases hx
      · rw [ha] at hx; cases hx; show w.heap.size ≤ g; omega)
    clear ho hb2 hg
    go_wp2_with fail
    go_loopw [20] (fun s20 wx => ∃ k : Nat, s20 = .int .i64 k ∧ k ≤ nd ∧ Hid (Below w.heap.size w wx) ∧ Hid (nd = 0 ∨ ∃ g, a2 = some ⟨g, 0, none⟩ ∧ w.heap.size ≤ g ∧ IntO wx g nd (fun i => if i < k then delAt l D i else D.getD i 0))) (fun s20 _ => nd - (intOf s20).toNat)
    case atStart => exact ⟨0, by go_num, Nat.zero_le _, B2, HG⟩
    case round =>
      obtain ⟨k, rfl, hk, HW, HGk⟩ := hrel
      obtain ⟨wk, rfl⟩ : ∃ u : World, u = wr := ⟨_, rfl⟩
      by_cases hlt : k < nd
      · have hlI : (k : Int) < (nd : Int) := by omega
        obtain ⟨B, off, q, ha, hcs, hq, hbd⟩ := (H.out.under HW.out).at hlt
        obtain ⟨y, x, hy, hcy, hx, hxd, hx64⟩ := row_get (R.out.under HW.out) hlt
        obtain ⟨c0, c1, c2'⟩ := hcs k q hq
        rcases HGk.out with h0 | ⟨g, hga, hgw, ho⟩
        · omega
        have hdb := HDB.out k hlt
        have hqd : l.getD k default = q := by rw [List.getD_eq_getElem?_getD, hq]; rfl
        rw [hxd, hqd] at hdb
        obtain ⟨d1, d2, d3, d4⟩ := hdb
        have hda : delAt l D k = if x = -1 then -1 else x - q.t := by unfold delAt; rw [hxd, hqd]
        have HDA := Lib.hid hda
        have HXD := Lib.hid hxd
        have HCY := Lib.hid hcy
        clear hcs hq hx hcy hbd hx64 hqd hda hxd
        have HGG := Lib.hid (And.intro hgw ho)
        clear hgw ho
        subst ha hy hga
        go_upto_region 8 with fail
        obtain ⟨u, hu⟩ : ∃ u : World, wk.alloc (.cells #[.int .i64 q.f, .int .i64 q.t, .int .i64 q.s] 94) = u := ⟨_, rfl⟩
        obtain ⟨hb, n0, n1, n2⟩ := box_pk hu
        have hyc := (hb.cell (lt_of_cell HCY.out)).trans HCY.out
        have HU := Lib.hid (HW.out.trans (hb.mono HW.out.size))
        have HO2 := Lib.hid (HGG.out.2.under hb)
        have hgc := HO2.out.cell hlt
        rw [if_neg (Nat.lt_irrefl k), HXD.out] at hgc
        have hgf := HO2.out.frozen
        rw [hu]
        clear hu hb c0 c1 c2' n0 n2
        by_cases hx1 : x = -1
        · subst hx1
          have HN := Lib.hid (show IntO u g nd (fun i => if i < k + 1 then delAt l D i else D.getD i 0) from HO2.out.congr fun i hi => by
            by_cases e : i = k
            · subst e; rw [if_neg (Nat.lt_irrefl _), if_pos (by omega), HDA.out, if_pos rfl, HXD.out]
            · by_cases e2 : i < k
              · rw [if_pos e2, if_pos (by omega)]
              · rw [if_neg e2, if_neg (by omega)])
          go_wp2_with fail
          go_roundw
          case rel => exact ⟨k + 1, by go_num, by omega, HU, .inr ⟨g, rfl, HGG.out.1, HN.out⟩⟩
          case measure => first | (simp [intOf]; done) | (simp [intOf]; omega)
        · have hx2 : (x == -1) = false := by simp [hx1]
          have hx3 : (x != -1) = true := by simp [hx1]
          have hwr : IntKind.i64.wrap (x - q.t) = x - q.t := IntWalk.i64_in _ ⟨by omega, by omega⟩
          have HN := Lib.hid (show IntO (u.setCell ⟨g, k, none⟩ (.int .i64 (x - q.t))) g nd (fun i => if i < k + 1 then delAt l D i else D.getD i 0) from (HO2.out.set hlt (x - q.t)).congr fun i hi => by
            by_cases e : i = k
            · subst e; rw [if_pos rfl, if_pos (by omega), HDA.out, if_neg hx1]
            · rw [if_neg e]
              by_cases e2 : i < k
              · rw [if_pos e2, if_pos (by omega)]
              · rw [if_neg e2, if_neg (by omega)])
          go_wp2_with fail
          go_region
          all_goals go_wp2_with fail
          go_roundw
          case rel => exact ⟨k + 1, by go_num, by omega, (HU.out.setCell (p := ⟨g, k, none⟩) HGG.out.1 _).drew, .inr ⟨g, rfl, HGG.out.1, HN.out⟩⟩
          case measure => first | (simp [intOf]; done) | (simp [intOf]; omega)
      · obtain rfl : k = nd := by omega
        have hkI : ¬ (k : Int) < (k : Int) := by omega
        go_wp2_with fail
        refine bodyPost_ret (v := .tuple #[.slice a2 k c2, .int .i64 0]) (by simp [results, Try.results180, go_sem]) rfl ?_
        have hlx : (delX l D).length = k := by unfold delX; rw [if_pos HC.out]; simp [HLN.out]
        rcases HGk.out with h0 | ⟨g, rfl, hgw, ho⟩
        · subst h0
          have e0 : delX l D = [] := List.length_eq_zero_iff.1 hlx
          refine ⟨a2, 0, c2, rfl, HW.out, by rw [e0]; exact row_nil15 _ _ hc2 _, HX2.out⟩
        · refine ⟨_, k, c2, rfl, HW.out, ho.row hc1 hc2 (by omega) hlx (fun i hi => by rw [if_pos hi]; exact delX_at HC.out (by rw [HLN.out]; exact hi)) (fun i hi => ?_), fun x hx => by cases hx; exact hgw⟩
          rw [if_pos hi]
          have := HDB.out i hi
          unfold delAt
          split
          · exact ⟨by decide, by decide⟩
          · exact ⟨by omega, by omega⟩
  · have hF : delX l D = [] := by unfold delX; rw [if_neg (by rw [HC.out]; exact hc0)]
    rw [hF]
    have hcB : (c == 0) = false := by simp [hc0]
    clear hF
    go_enter Try.func180, Try.ntmps180
    go_wp2_with fail
    refine (fault15 a n cap l ad nd cd D c HC.out _ H.out R.out).mono ?_
    rintro e w1 ⟨rfl, hb1⟩
    have B1 := Lib.hid hb1
    clear hb1
    go_wp2_with fail
    refine bodyPost_ret (v := .tuple #[.slice none 0 0, .int .i64 c]) (by simp [results, Try.results180, go_sem]) rfl ?_
    exact ⟨none, 0, 0, rfl, B1.out, row_nil15 _ _ (by omega) _, (fun x hx => by cases hx)⟩
end Go.Proofs.Ythljhddnfflpjaa
