/- Police of package conform, of a valid trace, flow and curve. By the verifier's side. -/
import Derived.Test.YtknimlpdpgpliaaDCfD
namespace Go.Proofs.Ytknimlpdpgpliaa
open Go.RowKit Go.Shelf
set_option linter.unusedSimpArgs false
set_option linter.unusedVariables false
attribute [local go_sem] Oper.semAt_some

set_option maxRecDepth 100000 in
set_option maxHeartbeats 1600000 in
/-- A copy that is a row of one's own. -/
theorem clone14 (a : Option Addr) (n cap : Nat) (l : List Pk) (w : World) (h : PkR w a n cap l) :
    Calls Try.prog 89 #[.slice a n cap] w fun e w' => ∃ v, e = .returned v ∧ w'.ownsRow w.heap.size 76 3 v l.length (pkV l) ∧ Below w.heap.size w w' := by
  obtain ⟨i0, hi, hz0, hz1, hz2⟩ := info_parts info_pk
  have hsm := h.sm
  have H := Lib.hid h
  clear h
  cases a with
  | none =>
    obtain rfl : n = 0 := by
      rcases H.out.place with ⟨h0, _⟩ | ⟨B, off, ha, _⟩
      · exact h0
      · cases ha
    have hl0 : l = [] := List.length_eq_zero_iff.1 H.out.len
    subst hl0
    have hnil := fun (w : World) => Lib.run_eql_slice_nil (P := Try.prog) w 45 76 none 0 cap 0 0 Try.underlying45
    go_enter Try.func89, Try.ntmps89
    go_wp2_with fail
    go_ret
    exact ⟨_, rfl, World.ownsRow_nil _ _ _ _, Below.refl _ _⟩
  | some x =>
    have hnil := fun (w : World) => Lib.run_eql_slice_nil (P := Try.prog) w 45 76 (some x) n cap 0 0 Try.underlying45
    go_enter Try.func89, Try.ntmps89
    go_wp2_with (at_builtin; refine wpList_append_pk rfl _ _ rfl w.heap.size _ 0 [] rfl (World.ownsRow_made w #[] 0 (Nat.le_refl _) (Nat.zero_le _) rfl) (some x) n cap l rfl (H.out.under ((Below.refl _ _).alloc (Nat.le_refl _) _)) (by omega) (by simp) ?_)
    intro v' w1 ho' hb'
    have HO := Lib.hid (show w1.ownsRow w.heap.size 76 3 v' l.length (pkV l) from by rw [H.out.len]; first | exact ho' | (have := ho'; rwa [Nat.zero_add, List.nil_append] at this))
    have HB := Lib.hid (((Below.refl w.heap.size w).alloc (Nat.le_refl _) _).trans hb')
    clear ho' hb'
    go_wp2_with fail
    go_ret
    exact ⟨_, rfl, HO.out, HB.out⟩

theorem rows_ne {w : World} {b1 b2 s1 s2 n1 n2 : Nat} {e1 e2 : TypeId} {v1 v2 : Value} {x1 x2 : List Value} (h1 : w.ownsRow b1 e1 s1 v1 n1 x1) (h2 : w.ownsRow b2 e2 s2 v2 n2 x2) (he : e1 ≠ e2) : ∀ j, v1.ownBlock = some j → ¬ v2.ownBlock = some j := fun j hj hj2 => by
  rcases h1.2 with ⟨rfl, _⟩ | ⟨g1, c1, k1, rfl, _, hg1, _⟩
  · cases hj
  · rcases h2.2 with ⟨rfl, _⟩ | ⟨g2, c2, k2, rfl, _, hg2, _⟩
    · cases hj2
    · cases hj; cases hj2
      rw [hg1] at hg2
      cases hg2
      exact he rfl
theorem row_keep {w u : World} {b s n : Nat} {e : TypeId} {v : Value} {xs : List Value} (h : w.ownsRow b e s v n xs) (hk : ∀ j, j < w.heap.size → v.ownBlock = some j → u.heap[j]? = w.heap[j]?) : u.ownsRow b e s v n xs := by
  refine ⟨h.1, ?_⟩
  rcases h.2 with h0 | ⟨g, cap, cur, hv, hbase, hg, h1, h2, h3, h4⟩
  · exact .inl h0
  · exact .inr ⟨g, cap, cur, hv, hbase, (hk g (Array.getElem?_eq_some_iff.1 hg).1 (by rw [hv]; rfl)).trans hg, h1, h2, h3, h4⟩
theorem row_own {β : Type} (base s n : Nat) (e : TypeId) (v : Value) (xs : List Value) : Own (fun (_ : β) W => W.ownsRow base e s v n xs) := fun _ X Y row ho hg hrow => row_keep ho fun j hj hv => hg.block j hj (fun e' => by
  obtain ⟨o, hx, hc⟩ := hrow j e'.symm
  rcases ho.2 with ⟨rfl, _⟩ | ⟨g, cap, cur, rfl, _, hgc, _⟩
  · cases hv
  · cases hv; rw [hgc] at hx; cases hx; cases hc)
theorem row_form {w : World} {b s n : Nat} {e : TypeId} {v : Value} {xs : List Value} (h : w.ownsRow b e s v n xs) : ∃ a c, v = .slice a n c := by
  rcases h.2 with ⟨rfl, rfl⟩ | ⟨g, cap, cur, hv, _⟩
  · exact ⟨none, 0, rfl⟩
  · exact ⟨some ⟨g, 0, none⟩, cap, hv⟩
/-- The numbers of a list of places. -/
def ixs (l : List Nat) : List Int := l.map (fun i : Nat => (i : Int))
theorem ixs_at {l : List Nat} {k : Nat} (h : k < l.length) : (ixs l).getD k 0 = ((l[k] : Nat) : Int) := by
  unfold ixs
  rw [List.getD_eq_getElem?_getD, List.getElem?_map, List.getElem?_eq_getElem h]; rfl
/-- Where Police stands: k packets have been looked at. -/
structure PolS (E : Nat → Int) (fl : Int) (l : List Pk) (w2 : World) (k : Nat) (v11 v12 : Value) (wx : World) : Prop where
  pas : wx.ownsRow w2.heap.size 76 3 v11 (polA E fl [] (l.take k)).reverse.length (pkV (polA E fl [] (l.take k)).reverse)
  gon : wx.ownsRow w2.heap.size 3 1 v12 (polI E fl 0 [] (l.take k)).length ((ixs (polI E fl 0 [] (l.take k))).map (Value.int .i64))
  below : Below w2.heap.size w2 wx
theorem PolS.call {E : Nat → Int} {fl : Int} {l : List Pk} {w2 : World} {k : Nat} {v11 v12 : Value} {wx wy : World} (h : PolS E fl l w2 k v11 v12 wx) (hb : Below wx.heap.size wx wy) : PolS E fl l w2 k v11 v12 wy :=
  ⟨ownsP_below h.pas hb, ownsP_below h.gon hb, h.below.trans (hb.mono h.below.size)⟩
theorem pol_next {E : Nat → Int} {fl : Int} {l : List Pk} {k : Nat} {q : Pk} (hq : l[k]? = some q) :
    polA E fl [] (l.take (k + 1)) = accQ E fl (polA E fl [] (l.take k)) q ∧ polI E fl 0 [] (l.take (k + 1)) = polI E fl 0 [] (l.take k) ++ (if okQ E fl (polA E fl [] (l.take k)) q = true then [] else [k]) := by
  have hk := (List.getElem?_eq_some_iff.1 hq).1
  have ht : l.take (k + 1) = l.take k ++ [q] := by rw [List.take_add_one, hq]; rfl
  rw [ht, polA_append, polI_append, polI_cons, List.length_take, Nat.min_eq_left (by omega), Nat.zero_add]
  refine ⟨rfl, ?_⟩
  split <;> rfl
theorem polA_mem {E : Nat → Int} {fl : Int} : ∀ (l acc : List Pk), ∀ x ∈ polA E fl acc l, x ∈ acc ∨ x ∈ l
  | [], acc, x, h => .inl h
  | q :: r, acc, x, h => by
    rcases polA_mem r _ x h with h1 | h1
    · unfold accQ at h1
      split at h1
      · rcases List.mem_cons.1 h1 with e | e
        · exact .inr (by rw [e]; simp)
        · exact .inl e
      · exact .inl h1
    · exact .inr (by simp [h1])
theorem polA_len {E : Nat → Int} {fl : Int} : ∀ (l acc : List Pk), (polA E fl acc l).length ≤ acc.length + l.length
  | [], acc => Nat.le_refl _
  | q :: r, acc => by
    have h := polA_len (E := E) (fl := fl) r (accQ E fl acc q)
    have : (accQ E fl acc q).length ≤ acc.length + 1 := by unfold accQ; split <;> simp
    show (polA E fl (accQ E fl acc q) r).length ≤ _
    simp only [List.length_cons]; omega
/-- What Police hands back. -/
def GivesPol (l : List Pk) (zs : List Nat) (w : World) (e : Ending) (w' : World) : Prop :=
  ∃ a1 n1 c1 a2 n2 c2, e = .returned (.tuple #[.slice a1 n1 c1, .slice a2 n2 c2, .int .i64 0]) ∧ Below w.heap.size w w' ∧ PkR w' a1 n1 c1 l ∧ (∀ x, a1 = some x → w.heap.size ≤ x.block) ∧ n2 = zs.length ∧ RowZ w' a2 n2 c2 (ixs zs)
theorem rowZ_owns14 {w : World} {base n : Nat} {v : Value} {zs : List Nat} (h : w.ownsRow base 3 1 v n ((ixs zs).map (Value.int .i64))) (hs : n ≤ 1000) (hb : ∀ i ∈ zs, i ≤ 1000) : ∃ a cap, v = .slice a n cap ∧ RowZ w a n cap (ixs zs) ∧ ∀ x, a = some x → base ≤ x.block ∧ x.block < w.heap.size ∧ v.ownBlock = some x.block := by
  have hl : zs.length = n := by have := h.1; simpa [ixs] using this
  have hbd : ∀ i, i < n → In64 ((ixs zs).getD i 0) := fun i hi => by
    rw [ixs_at (by omega)]
    have := hb _ (List.getElem_mem (show i < zs.length by omega))
    exact ⟨by omega, by omega⟩
  rcases h.2 with ⟨rfl, rfl⟩ | ⟨g, cap, cur, rfl, hbase, hg, h1, h2, h3, h4⟩
  · exact ⟨none, 0, rfl, ⟨by unfold ixs; simpa using hl, Nat.le_refl _, by omega, by omega, fun i hi => absurd hi (by omega), hbd⟩, fun x hx => (by cases hx)⟩
  · refine ⟨some ⟨g, 0, none⟩, cap, rfl, ⟨by unfold ixs; simpa using hl, h1, by omega, by unfold maxLen at h2; omega, fun i hi => ⟨_, rfl, ?_⟩, hbd⟩, fun x hx => by cases hx; exact ⟨hbase, (Array.getElem?_eq_some_iff.1 hg).1, rfl⟩⟩
    refine h.cells (g := g) rfl i _ ?_
    rw [List.getElem?_map, ixs_at (by omega)]
    unfold ixs
    rw [List.getElem?_map, List.getElem?_eq_getElem (show i < zs.length by omega)]; rfl
end Go.Proofs.Ytknimlpdpgpliaa

namespace Go.Proofs.Ytknimlpdpgpliaa
open Go.RowKit Go.Shelf
set_option linter.unusedSimpArgs false
set_option linter.unusedVariables false
attribute [local go_sem] Oper.semAt_some

set_option maxRecDepth 100000 in
set_option maxHeartbeats 6400000 in
theorem police_in (a : Option Addr) (n cap : Nat) (l : List Pk) (fl : Int) (hv : vcode l = 0) (hfl : -1 ≤ fl) (af : Option Addr) (nf capf : Nat) (zs : List Int) (p : Nat) (inc : Int) (hp : In64 p) (hi : In64 inc) (g : Good zs p inc) (w : World) (h : PkR w a n cap l) (hz : RowZ w af nf capf zs) :
    CallsIn Fence.wide 8 Try.prog 62 #[.slice a n cap, .int .i64 fl, curV af nf capf p inc] w (GivesPol (polL (atC zs p inc) fl [] l) (polI (atC zs p inc) fl 0 [] l) w) := by
  have hro : Fence.wide.round = none := rfl
  have h1 : 1 ≤ 8 := by omega
  obtain ⟨i0, hi1, hz0, hz1', hz2⟩ := info_parts info_int13
  obtain ⟨W, hW⟩ : ∃ W, w.alloc (.cells #[.slice af nf capf, .int .i64 p, .int .i64 inc] 26) = W := ⟨_, rfl⟩
  have hbw : Below w.heap.size w W := by rw [← hW]; exact (Below.refl _ _).alloc (Nat.le_refl _) _
  obtain ⟨n0, n1, n2⟩ : W.cell? ⟨w.heap.size, 0, none⟩ = some (.slice af nf capf) ∧ W.cell? ⟨w.heap.size, 1, none⟩ = some (.int .i64 p) ∧ W.cell? ⟨w.heap.size, 2, none⟩ = some (.int .i64 inc) := by rw [← hW]; exact ⟨cell_new13 rfl, cell_new13 rfl, cell_new13 rfl⟩
  have hwl : w.heap.size < W.heap.size := by rw [← hW]; simp
  have key : Calls Try.prog 98 #[.slice a n cap, .int .i64 fl, curV af nf capf p inc] W fun e w' => e = .returned (.int .i64 0) ∧ Hid (Below w.heap.size w w') ∧ Hid (PkR w' a n cap l ∧ RowZ w' af nf capf zs) ∧ w'.cell? ⟨w.heap.size, 0, none⟩ = some (.slice af nf capf) ∧ w'.cell? ⟨w.heap.size, 1, none⟩ = some (.int .i64 p) ∧ w'.cell? ⟨w.heap.size, 2, none⟩ = some (.int .i64 inc) := by
    refine (faultAll14 a n cap l fl 0 af nf capf zs p inc hp hi (by rw [(okC_iff zs p inc).2 g]; exact acode_yes hv hfl) W (h.under hbw) (hz.under hbw)).mono ?_
    rintro e w1 ⟨rfl, hb1⟩
    exact ⟨rfl, Lib.hid (hbw.trans (hb1.mono hbw.size)), Lib.hid ⟨(h.under hbw).under hb1, (hz.under hbw).under hb1⟩, (hb1.cell hwl).trans n0, (hb1.cell hwl).trans n1, (hb1.cell hwl).trans n2⟩
  have KEY := Lib.hid key
  have HG := Lib.hid g
  have HVO := Lib.hid (vcode_ok hv)
  have hsm := h.sm
  have hnl := h.len
  have HNL := Lib.hid hnl
  have hn60 : n ≤ 60 := by rw [← hnl]; exact HVO.out.1
  obtain ⟨E, hE⟩ : ∃ E, atC zs p inc = E := ⟨_, rfl⟩
  rw [hE]
  have HE := Lib.hid hE
  clear key hwl hbw hp hi g h hz hv hnl hE
  refine callsIn_of_wp_marks Try.func62 rfl trivial ?_ hro
  simp only [Try.ntmps62, List.size_toArray, List.length_cons, List.length_nil, Nat.reduceAdd, Nat.reduceSub, Array.replicate_succ, Array.replicate_zero, List.push_toArray, List.append_toArray, List.nil_append, List.cons_append]
  gi_wp2_with (first
    | (refine ⟨trivial, ?_⟩; gi_at_call 98; refine (callsIn_wide.2 KEY.out).mono ?_; rintro e w1 ⟨rfl, hb1, hz1, m0, m1, m2⟩)
    | (refine ⟨trivial, ?_⟩; gi_at_call 99; refine (callsIn_wide.2 (pvalues_any af nf capf zs p inc HG.out _ hz1.out.2)).mono ?_; rintro e w2 ⟨B, rfl, hb2, hBw, hBl, hcl⟩; have HB2 := Lib.hid (And.intro (hb1.out.trans (hb2.mono hb1.out.size)) hcl); have HP2 := Lib.hid (hz1.out.1.under hb2); clear hb2 hcl m0 m1 m2 hb1 hz1))
  rw [HE.out] at HB2
  have HS0 := Lib.hid (show PolS E fl l w2 0 (.slice none 0 0) (.slice none 0 0) w2 from ⟨World.ownsRow_nil _ _ _ _, World.ownsRow_nil _ _ _ _, Below.refl _ _⟩)
  gi_loopw [31, 11, 12] (fun s31 s11 s12 wx => ∃ k : Nat, s31 = .int .i64 k ∧ k ≤ n ∧ Hid (PolS E fl l w2 k s11 s12 wx)) (fun s31 _ _ _ => n - (intOf s31).toNat)
  case atStart => exact ⟨0, by go_num, Nat.zero_le _, HS0⟩
  case round =>
    obtain ⟨k, rfl, hk, HS⟩ := hrel
    obtain ⟨wk, rfl⟩ : ∃ u : World, u = wr := ⟨_, rfl⟩
    obtain ⟨v11, rfl⟩ : ∃ u : Value, u = u11 := ⟨_, rfl⟩
    obtain ⟨v12, rfl⟩ : ∃ u : Value, u = u12 := ⟨_, rfl⟩
    by_cases hlt : k < n
    · have hlI : (k : Int) < (n : Int) := by omega
      obtain ⟨Bk, off, q, ha, hcs, hq, hbd⟩ := (HP2.out.under HS.out.below).at hlt
      obtain ⟨c0, c1, c2⟩ := hcs k q hq
      have hqok := HVO.out.2.1 q (List.mem_of_getElem? hq)
      have bxu : PkBox (wk.alloc (.cells #[.int .i64 q.f, .int .i64 q.t, .int .i64 q.s] 76)) wk.heap.size q := PkBox.new wk q
      have hwu : Below wk.heap.size wk (wk.alloc (.cells #[.int .i64 q.f, .int .i64 q.t, .int .i64 q.s] 76)) := (Below.refl _ _).alloc (Nat.le_refl _) _
      have HNX := Lib.hid (pol_next (E := E) (fl := fl) hq)
      have HQ := Lib.hid (And.intro hq (And.intro hqok (And.intro bxu hwu)))
      have hac : ∀ x ∈ (polA E fl [] (l.take k)).reverse ++ [q], okP x = true ∧ x.t ≤ q.t := fun x hx => by
        rcases List.mem_append.1 hx with e | e
        · rcases polA_mem (l.take k) [] x (List.mem_reverse.1 e) with h | h
          · cases h
          · refine ⟨HVO.out.2.1 x (List.mem_of_mem_take h), ?_⟩
            have hs : Asc (l.take k ++ [q]) := by
              rw [show l.take k ++ [q] = l.take (k + 1) from by rw [List.take_add_one, hq]; rfl]
              exact HVO.out.2.2.sublist (List.take_sublist _ _)
            exact (asc_append.1 hs).2.2 x h q (by simp)
        · rw [List.mem_singleton.1 e]; exact ⟨hqok, Int.le_refl _⟩
      have hal : (polA E fl [] (l.take k)).reverse.length ≤ 60 := by
        have := polA_len (E := E) (fl := fl) (l.take k) []
        rw [List.length_take] at this
        rw [List.length_reverse]; simp at this; omega
      have HAC := Lib.hid (And.intro hac hal)
      subst ha
      clear hcs hq hbd hqok bxu hwu hac hal
      by_cases hbel : fl = -1 ∨ q.f = fl
      case neg =>
        have HBB := Lib.hid (belongs14 q fl false (decide_eq_false hbel))
        have HBEL := Lib.hid hbel
        clear hbel
        gi_wp2_with (refine ⟨trivial, ?_⟩; gi_at_call 103; refine (callsIn_wide.2 (HBB.out _)).mono ?_; rintro e w4 ⟨rfl, hb4⟩; have HB4 := Lib.hid (HQ.out.2.2.2.trans (hb4.mono (by simp))); clear hb4)
        have HS4 := Lib.hid (HS.out.call HB4.out)
        have HN4 := Lib.hid (show PolS E fl l w2 (k + 1) v11 v12 w4 from by
          have e1 : accQ E fl (polA E fl [] (l.take k)) q = polA E fl [] (l.take k) := by unfold accQ; rw [if_neg (fun h => HBEL.out h.1)]
          have e2 : okQ E fl (polA E fl [] (l.take k)) q = true := by unfold okQ; rw [decide_eq_false HBEL.out]; rfl
          obtain ⟨x1, x2⟩ := HNX.out
          rw [e1] at x1
          rw [if_pos e2, List.append_nil] at x2
          exact ⟨by rw [x1]; exact HS4.out.pas, by rw [x2]; exact HS4.out.gon, HS4.out.below⟩)
        go_roundw
        case rel => exact ⟨k + 1, by go_num, by omega, HN4⟩
        case measure => first | (simp [intOf]; done) | (simp [intOf]; omega)
      case pos =>
        have HBB := Lib.hid (belongs14 q fl true (decide_eq_true hbel))
        obtain ⟨b, hb⟩ : ∃ b, (exc14 E ((polA E fl [] (l.take k)).reverse ++ [q])).isNone = b := ⟨_, rfl⟩
        have he : exc14 E ((polA E fl [] (l.take k)).reverse ++ [q]) = exB E (q.t + 1) 0 (q :: polA E fl [] (l.take k)) := by rw [exc14_snoc, List.reverse_reverse]
        have HBO := Lib.hid (And.intro hb (And.intro he hbel))
        clear hb he hbel
        cases b with
        | true =>
          gi_wp2_with (first
            | (refine ⟨trivial, ?_⟩; gi_at_call 103; refine (callsIn_wide.2 (HBB.out _)).mono ?_; rintro e w4 ⟨rfl, hb4⟩; have HS4 := Lib.hid (HS.out.call (HQ.out.2.2.2.trans (hb4.mono (by simp)))); have bx4 := pkBox_block HQ.out.2.2.1 (hb4.block _ (pkBox_lt HQ.out.2.2.1)); obtain ⟨y0, y1, y2⟩ := bx4.cells; clear hb4 bx4)
            | (refine ⟨trivial, ?_⟩; gi_at_call 104; refine (callsIn_wide.2 (admitB w2.heap.size v11 _ q HAC.out.2 HAC.out.1 B E w4 HS4.out.pas HS4.out.below.size (fun W hW => HB2.out.2.above (HS4.out.below.trans hW)))).mono ?_; rintro e w5 ⟨v15, b5, rfl, h51, h52, h53, h54, h55⟩; obtain rfl : b5 = true := (by rw [← h51]; exact HBO.out.1); have H5 := Lib.hid (And.intro h52 (And.intro h53 h55)); clear h51 h52 h53 h54 h55))
          have HN5 := Lib.hid (show PolS E fl l w2 (k + 1) v15 v12 w5 from by
            have e1 : accQ E fl (polA E fl [] (l.take k)) q = q :: polA E fl [] (l.take k) := by unfold accQ; rw [if_pos ⟨HBO.out.2.2, by rw [← HBO.out.2.1]; exact HBO.out.1⟩]
            have e2 : okQ E fl (polA E fl [] (l.take k)) q = true := by unfold okQ; rw [← HBO.out.2.1, HBO.out.1]; simp
            obtain ⟨x1, x2⟩ := HNX.out
            rw [e1] at x1
            rw [if_pos e2, List.append_nil] at x2
            refine ⟨?_, ?_, HS4.out.below.trans H5.out.2.1⟩
            · have := H5.out.1
              unfold admL at this
              rw [if_pos HBO.out.1] at this
              rw [x1, List.reverse_cons]; exact this
            · rw [x2]
              exact row_keep HS4.out.gon (fun j hj hv => H5.out.2.2 j hj (rows_ne HS4.out.gon HS4.out.pas (by decide) j hv)))
          go_roundw
          case rel => exact ⟨k + 1, by go_num, by omega, HN5⟩
          case measure => first | (simp [intOf]; done) | (simp [intOf]; omega)
        | false =>
          have hgl : (polI E fl 0 [] (l.take k)).length ≤ 60 := by
            have := polI_len E fl (l.take k) [] 0
            rw [List.length_take] at this; omega
          gi_wp2_with (first
            | (refine ⟨trivial, ?_⟩; gi_at_call 103; refine (callsIn_wide.2 (HBB.out _)).mono ?_; rintro e w4 ⟨rfl, hb4⟩; have HS4 := Lib.hid (HS.out.call (HQ.out.2.2.2.trans (hb4.mono (by simp)))); have bx4 := pkBox_block HQ.out.2.2.1 (hb4.block _ (pkBox_lt HQ.out.2.2.1)); obtain ⟨y0, y1, y2⟩ := bx4.cells; clear hb4 bx4)
            | (refine ⟨trivial, ?_⟩; gi_at_call 104; refine (callsIn_wide.2 (admitB w2.heap.size v11 _ q HAC.out.2 HAC.out.1 B E w4 HS4.out.pas HS4.out.below.size (fun W hW => HB2.out.2.above (HS4.out.below.trans hW)))).mono ?_; rintro e w5 ⟨v15, b5, rfl, h51, h52, h53, h54, h55⟩; obtain rfl : b5 = false := (by rw [← h51]; exact HBO.out.1); have H5 := Lib.hid (And.intro h52 (And.intro h53 (And.intro (h54 rfl) (row_keep HS4.out.gon (fun j hj hv => h55 j hj (rows_ne HS4.out.gon HS4.out.pas (by decide) j hv)))))); have hbs5 := Nat.le_trans HS4.out.below.size h53.size; clear h51 h52 h53 h54 h55)
            | (gi_at_builtin; refine wpListIn_append_own _ rfl _ _ 22 rfl w2.heap.size 3 i0 (.int .i64 0) 1 8 Try.underlying22 hi1 hz0 hz1' hz2 rfl (by decide) _ _ _ rfl (H5.out.2.2.2.alloc _) ⟨w5.heap.size, 0, none⟩ 1 1 [.int .i64 k] rfl rfl ?k1 ?k2 ?k3 ?k4 ?k5 ?_))
          case k1 =>
            intro j u hj
            have hj1 : j < 1 := (List.getElem?_eq_some_iff.1 hj).1
            obtain rfl : j = 0 := by omega
            cases hj
            rw [show ((⟨w5.heap.size, 0, none⟩ : Addr).add 0) = ⟨w5.heap.size, 0, none⟩ from rfl]
            exact cell_new13 rfl
          case k2 => intro u hu; rw [List.mem_singleton.1 hu]; rfl
          case k3 => unfold maxLen; omega
          case k4 => omega
          case k5 => simp; omega
          · intro v' w6 ho' hg' _
            have HN6 := Lib.hid (show PolS E fl l w2 (k + 1) v15 v' w6 from by
              have e1 : accQ E fl (polA E fl [] (l.take k)) q = polA E fl [] (l.take k) := by
                unfold accQ; rw [if_neg (fun h => by have h2 := h.2; rw [← HBO.out.2.1, HBO.out.1] at h2; cases h2)]
              have e2 : okQ E fl (polA E fl [] (l.take k)) q = false := by
                unfold okQ; rw [← HBO.out.2.1, HBO.out.1, decide_eq_true HBO.out.2.2]; rfl
              obtain ⟨x1, x2⟩ := HNX.out
              rw [e1] at x1
              rw [if_neg (by rw [e2]; decide)] at x2
              have hp5 : w5.ownsRow w2.heap.size 76 3 v15 (polA E fl [] (l.take k)).reverse.length (pkV (polA E fl [] (l.take k)).reverse) := by
                have := H5.out.1
                unfold admL at this
                rw [if_neg (by rw [HBO.out.1]; decide)] at this
                exact this
              have hrow : ∀ j, v12.ownBlock = some j → w2.heap.size ≤ j := fun j hj => (H5.out.2.2.2.lt j hj).1
              refine ⟨?_, ?_, ?_⟩
              · rw [x1]
                exact (hp5.alloc _).kept hg' (by
                  cases hvo : v15.ownBlock with
                  | none => exact .inl rfl
                  | some j => exact .inr (fun e => rows_ne H5.out.2.2.2 hp5 (by decide) j (by rw [← e]) hvo))
              · rw [x2]
                unfold ixs at ho' ⊢
                rw [List.length_append, List.map_append, List.map_append]
                exact ho'
              · exact (HS4.out.below.trans H5.out.2.1).trans (grownBy_below (u := w5.alloc (.cells #[.int .i64 k] 3)) hg' hrow (by simp; omega) |> fun h => ((Below.refl w2.heap.size w5).alloc (by omega) _).trans h))
            clear ho' hg'
            gi_wp2
            go_roundw
            case rel => exact ⟨k + 1, by go_num, by omega, HN6⟩
            case measure => first | (simp [intOf]; done) | (simp [intOf]; omega)
    · obtain rfl : k = n := by omega
      have hlI : ¬ (k : Int) < (k : Int) := by omega
      have htk : l.take k = l := List.take_of_length_le (by rw [HNL.out]; exact Nat.le_refl _)
      have hgon := HS.out.gon
      rw [htk] at hgon
      obtain ⟨gn, hgn⟩ : ∃ gn, polI E fl 0 [] l = gn := ⟨_, rfl⟩
      rw [hgn] at hgon
      have HGE := Lib.hid hgn
      have hgr : ∀ i ∈ gn, i < l.length := fun i hi => by
        rw [← hgn] at hi
        have := polI_range E fl l [] 0 i hi; omega
      have hga : gn.Pairwise (· < ·) := by rw [← hgn]; exact polI_asc E fl l [] 0
      have hdl : dl l gn = polL E fl [] l := by rw [← hgn]; exact dl_pol E fl l [] []
      have hgl : gn.length ≤ 60 := by
        have := polI_len E fl l [] 0
        rw [hgn] at this
        have := HNL.out; omega
      have HGN := Lib.hid (And.intro hgr (And.intro hga (And.intro hdl hgl)))
      obtain ⟨N, hN⟩ : ∃ N, gn.length = N := ⟨_, rfl⟩
      rw [hN] at hgon hgl
      obtain ⟨a12, c12, hv12, hz12, hx12⟩ := rowZ_owns14 hgon (by omega) (fun i hi => by have := hgr i hi; have := HNL.out; omega)
      subst hv12
      have HZ12 := Lib.hid (And.intro hz12 (And.intro hx12 hN))
      have HPk := Lib.hid (HP2.out.under HS.out.below)
      have HSB := Lib.hid HS.out.below
      clear hgon hgr hga hdl hz12 hx12 hN hgn htk
      gi_wp2_with (first
        | (refine ⟨trivial, ?_⟩; gi_at_call 89; refine (callsIn_wide.2 (clone14 a k cap l _ HPk.out)).mono ?_; rintro e w6 ⟨v17, rfl, h61, h62⟩; rw [HNL.out] at h61; obtain ⟨a17, c17, rfl⟩ := row_form h61; have H6 := Lib.hid (And.intro h61 h62); clear h61 h62)
        | (refine ⟨trivial, ?_⟩; gi_at_call 105; refine (backwardI_in Fence.wide _ trivial hro _ _ _ _).mono ?_; rintro e w7 ⟨rfl, rfl⟩))
      have b17 : Boxed ((w6.alloc (.cells #[.slice a17 k c17] 45)).alloc (.cells #[.slice a12 N c12] 22)) w6.heap.size 45 (.slice a17 k c17) := (Boxed.new w6 45 (.slice a17 k c17)).alloc _
      have bBs : Boxed ((w6.alloc (.cells #[.slice a17 k c17] 45)).alloc (.cells #[.slice a12 N c12] 22)) (w6.heap.size + 1) 22 (.slice a12 N c12) := by
        have := Boxed.new (w6.alloc (.cells #[.slice a17 k c17] 45)) 22 (.slice a12 N c12)
        rwa [World.size_alloc] at this
      have hB6 : Below w6.heap.size w6 ((w6.alloc (.cells #[.slice a17 k c17] 45)).alloc (.cells #[.slice a12 N c12] 22)) := ((Below.refl _ w6).alloc (Nat.le_refl _) _).alloc (by simp) _
      have hsz : ((w6.alloc (.cells #[.slice a17 k c17] 45)).alloc (.cells #[.slice a12 N c12] 22)).heap.size = w6.heap.size + 2 := by simp
      obtain ⟨W0, hW0⟩ : ∃ W0, (w6.alloc (.cells #[.slice a17 k c17] 45)).alloc (.cells #[.slice a12 N c12] 22) = W0 := ⟨_, rfl⟩
      rw [hW0] at b17 bBs hB6 hsz ⊢
      clear hW0
      have hw6 := H6.out.2.size
      have hw2 := HSB.out.size
      have hww := HB2.out.1.size
      have hB0 : Below w.heap.size w W0 := HB2.out.1.trans ((HSB.out.trans ((H6.out.2.trans (hB6.mono hw6)).mono hw2)).mono hww)
      obtain ⟨d, hd⟩ : ∃ d, (match a17 with | some y => y.block | none => w6.heap.size) = d := ⟨_, rfl⟩
      have hd2 : wk.heap.size ≤ d ∧ d ≤ w6.heap.size := by
        rw [← hd]
        cases a17 with
        | none => exact ⟨hw6, Nat.le_refl _⟩
        | some y =>
          have := H6.out.1.lt y.block rfl
          exact ⟨this.1, Nat.le_of_lt this.2⟩
      have hda : ∀ y, a17 = some y → y.block = d := fun y hy => by rw [← hd, hy]
      have hz0' : RowZ W0 a12 N c12 (ixs gn) := (HZ12.out.1.under H6.out.2).under hB6
      have hg0 : W0.ownsRow w2.heap.size 3 1 (.slice a12 N c12) N ((ixs gn).map (Value.int .i64)) := by
        have := HS.out.gon
        rw [List.take_of_length_le (by rw [HNL.out]; exact Nat.le_refl _), HGE.out] at this
        rw [HZ12.out.2.2] at this
        exact ownsP_below (ownsP_below this H6.out.2) hB6
      have hr0 : W0.ownsRow wk.heap.size 76 3 (.slice a17 k c17) k (pkV l) := by
        have := ownsP_below H6.out.1 hB6
        exact this
      have HD := Lib.hid (And.intro hda (And.intro hg0 (And.intro hB0 hz0')))
      clear hd hz0'
      refine wpIn_rangeFunc_list hro h1 (gf := 154) (lb := #[.pointer (some ⟨w6.heap.size + 1, 0, none⟩)]) rfl trivial (enters_of Try.func154 (by kernel_rfl) rfl)
        (backwardI_seq Fence.wide (8 - 1) trivial hro (by omega) (w6.heap.size + 1) (w6.heap.size + 2) w6.heap.size d a12 N c12 (ixs gn) W0 (by omega) (by omega) (by omega) (by omega) bBs.cell HD.out.2.2.2 (by omega) (fun y hy _ => by
          have := HZ12.out.2.1 y hy
          exact ⟨by omega, by omega, by omega⟩)) bb2_t (bb2_b (by omega)) (fun _ => rfl)
        (fun kk W => ∃ m, Boxed W w6.heap.size 45 (.slice a17 m c17) ∧ W.ownsRow wk.heap.size 76 3 (.slice a17 m c17) m (pkV (dl l (gn.drop (N - kk)))) ∧ W.ownsRow w2.heap.size 3 1 (.slice a12 N c12) N ((ixs gn).map (Value.int .i64)) ∧ Below w.heap.size w W ∧ w6.heap.size + 2 ≤ W.heap.size)
        (fun s X Y row hs hg hr => by
          obtain ⟨m, g1, g2, g3, g4, g5⟩ := hs
          exact ⟨m, (Own.from (boxed_own (β := Unit) _ _ (fun _ => .slice a17 m c17)) _) () X Y row g1 hg hr, (Own.from (row_own (β := Unit) _ _ _ _ _ _) _) () X Y row g2 hg hr, (Own.from (row_own (β := Unit) _ _ _ _ _ _) _) () X Y row g3 hg hr, (ownFrom_below (β := Unit) (B := W0.heap.size) (Nat.le_refl _) (by omega)) () X Y row g4 hg hr, Nat.le_trans g5 hg.size⟩)
        ⟨k, b17, by rw [Nat.sub_zero, List.drop_of_length_le (by rw [HZ12.out.2.2]; exact Nat.le_refl _)]; exact hr0, hg0, hB0, by omega⟩
        (fun x => { tmps := #[.slice a k cap, .int .i64 fl, curV af nf capf p inc, undef, undef, .pointer (some ⟨w.heap.size, 0, none⟩), .slice none 0 0, .slice none 0 0, .int .i64 0, .int .i64 0, closPV B, v11, .slice a12 N c12, u13, u14, u15, u16, .pointer (some ⟨w6.heap.size, 0, none⟩), undef, .int .i64 x.2, .slice a k cap, .int .i64 fl, .agg #[.slice af nf capf, .int .i64 p, .int .i64 inc], .int .i64 0, .int .i64 0, .bool false, undef, .agg #[.slice af nf capf, .int .i64 p, .int .i64 inc], closPV B, .slice a k cap, .int .i64 k, .int .i64 k, .bool false, u33, u34, u35, u36, u37, u38, u39, u40, u41, u42, u43, u44, u45, u46, u47, u48, u49, u50, u51, u52, u53, u54, .slice a k cap, .slice a17 k c17, .slice a12 N c12, .func (.func 154) #[] #[.pointer (some ⟨w6.heap.size + 1, 0, none⟩)], .int .i64 x.1, .int .i64 x.2, undef, undef, undef, undef, undef, undef, undef], defers := [] })
        ?assign ?body ?done
      case assign =>
        intro l0 x W K hK
        gi_wp2
        exact hK
      case body =>
        rintro l0 kk x W hl hx ⟨m, g1, g2, g3, g4, g5⟩
        obtain ⟨hkN, hxe⟩ := bkI_of hx
        have hil : (ixs gn).length = N := by unfold ixs; rw [List.length_map]; exact HZ12.out.2.2
        rw [hil] at hkN hxe
        have hgl2 : N - 1 - kk < gn.length := by rw [HZ12.out.2.2]; omega
        rw [ixs_at hgl2] at hxe
        obtain ⟨i, hi⟩ : ∃ i, gn[N - 1 - kk] = i := ⟨_, rfl⟩
        rw [hi] at hxe
        have hdrop : gn.drop (N - (kk + 1)) = i :: gn.drop (N - kk) := by
          rw [show N - (kk + 1) = N - 1 - kk by omega, List.drop_eq_getElem_cons hgl2, hi, show N - 1 - kk + 1 = N - kk by omega]
        have hpw : (gn.drop (N - (kk + 1))).Pairwise (· < ·) := HGN.out.2.1.sublist (List.drop_sublist _ _)
        have hmem : ∀ j ∈ gn.drop (N - (kk + 1)), j < l.length := fun j hj => HGN.out.1 j (List.mem_of_mem_drop hj)
        rw [hdrop] at hpw hmem
        have hbnd := asc_bound _ _ hpw hmem
        have hdlen := dl_len (l := l) (gn.drop (N - kk)) (List.pairwise_cons.1 hpw).2 (fun j hj => hmem j (by simp [hj]))
        have hml : (dl l (gn.drop (N - kk))).length = m := by
          have := g2.1
          rw [pkV_length] at this; omega
        have him : i < m := by omega
        obtain ⟨y, hy⟩ : ∃ y, a17 = some y := by
          rcases g2.2 with ⟨he, h0⟩ | ⟨g, cap', cur, he, _⟩
          · omega
          · cases he; exact ⟨_, rfl⟩
        obtain ⟨g, hyg⟩ : ∃ g, y = ⟨g, 0, none⟩ := by
          rcases g2.2 with ⟨he, h0⟩ | ⟨g, cap', cur, he, _⟩
          · omega
          · rw [hy] at he; cases he; exact ⟨g, rfl⟩
        rw [hyg] at hy
        have hgd : g = d := HD.out.1 _ hy
        obtain ⟨j, hj⟩ : ∃ j, i + 1 = j := ⟨_, rfl⟩
        have eJ : (i : Int) + 1 = (j : Int) := by omega
        have hm1000 : m ≤ 1000 := by have := HNL.out; omega
        have hwj : IntKind.i64.wrap (j : Int) = (j : Int) := IntWalk.i64_in _ ⟨by omega, by omega⟩
        have hx2 : x.2 = (i : Int) := by rw [hxe]
        have hne1 : ¬ g = w6.heap.size := by
          have h2 := g2
          rw [hy] at h2
          rcases h2.2 with ⟨he, _⟩ | ⟨g', cap', cur, he, _, hg', _⟩
          · cases he
          · cases he
            intro e
            rw [e] at hg'
            rw [show W.heap[w6.heap.size]? = _ from g1] at hg'
            cases hg'
        have hne2 : ¬ (Value.slice a12 N c12).ownBlock = some g := fun e => rows_ne g3 g2 (by decide) g e (by rw [hy]; rfl)
        have hdel := delete14 wk.heap.size g m c17 i j (dl l (gn.drop (N - kk))) hj (by omega) hm1000 W (by rw [← hy]; exact g2)
        have HDE := Lib.hid hdel
        have HGG := Lib.hid (And.intro g1 (And.intro g2 (And.intro g3 (And.intro g4 (And.intro hdrop (And.intro hy (And.intro hgd (And.intro hne1 hne2))))))))
        have cB := g1.cell
        rw [hy] at cB
        rw [hx2]
        clear hx hxe hil hgl2 hi hdrop hpw hmem hbnd hdlen hml him hyg hgd hx2 hne1 hne2 hdel g1 g2 g3 g4 hy hj
        gi_wp2_with (refine ⟨trivial, ?_⟩; gi_at_call 106; refine (CallsIn.inRound l0 (callsIn_wide.2 HDE.out)).mono ?_; rintro e W3 ⟨m2, hm2, rfl, ho3, ha3⟩; have b3 : Boxed W3 w6.heap.size 45 (.slice a17 m c17) := (ha3.block _ HGG.out.1.lt (fun e => HGG.out.2.2.2.2.2.2.2.1 e.symm)).trans HGG.out.1; have c3 := b3.cell; have f3 := b3.frozen; rw [HGG.out.2.2.2.2.2.1] at c3; have H3 := Lib.hid (And.intro ho3 (And.intro ha3 (And.intro hm2 b3))); clear ho3 ha3 b3)
        obtain ⟨g1, g2, g3, g4, hdrop, hy, hgd, hne1, hne2⟩ := HGG.out
        obtain ⟨ho3, ha3, hm2, b3⟩ := H3.out
        have hkeep : KeepsFrom W0.heap.size W (W3.setCell ⟨w6.heap.size, 0, none⟩ (.slice (some ⟨g, 0, none⟩) m2 c17)) :=
          KeepsFrom.trans ⟨ha3.size, fun q o _ hq ho => by
            refine (ha3.block q (Array.getElem?_eq_some_iff.1 hq).1 (fun e => ?_)).trans hq
            rw [hy] at g2
            rcases g2.2 with ⟨he, _⟩ | ⟨g', cap', cur, he, _, hg', _⟩
            · cases he
            · cases he
              rw [e, hg'] at hq
              cases hq; cases ho⟩ ((KeepsOthers.setCell _ _ _).from _)
        have hbb : BB2 (w6.heap.size + 2) w6.heap.size d W (W3.setCell ⟨w6.heap.size, 0, none⟩ (.slice (some ⟨g, 0, none⟩) m2 c17)) := ⟨by simpa [World.setCell] using ha3.size, fun q h1 h2 h3 => by
          rw [Below.heap_setCell _ _ _ _ (fun e => h2 e)]
          exact ha3.block q (by omega) (by rw [hgd]; exact h3)⟩
        refine ⟨hkeep, hbb, m2, by rw [hy]; exact b3.set _, ?_, ?_, ?_, ?_⟩
        · rw [hdrop, hy]
          exact owns_cell14 ho3 (fun e => hne1 (by cases e; rfl)) _ _
        · refine owns_cell14 (row_keep g3 (fun q hq hv => ha3.block q hq (fun e => hne2 (by rw [← e]; exact hv)))) (fun e => ?_) _ _
          cases a12 with
          | none => cases e
          | some v =>
            have := HZ12.out.2.1 v rfl
            have e2 : v.block = w6.heap.size := Option.some.inj e
            omega
        · exact (g4.trans (ha3.below (by have := hd2.1; omega) (by have := HB2.out.1.size; have := g4.size; exact g4.size))).setCell (p := ⟨w6.heap.size, 0, none⟩) (by show w.heap.size ≤ w6.heap.size; omega) _
        · have := ha3.size
          simp [World.setCell]; omega
      case done =>
        rintro D W hD ⟨m, g1, g2, g3, g4, g5⟩ hK
        rw [show (bkI (ixs gn)).length = N from by rw [bkI_len]; unfold ixs; rw [List.length_map]; exact HZ12.out.2.2, Nat.sub_self, List.drop_zero, HGN.out.2.2.1] at g2
        have hml : (polL E fl [] l).length = m := by
          have := g2.1
          rw [pkV_length] at this; omega
        have hm60 : m ≤ 60 := by
          have := polI_len E fl l [] 0
          have := HNL.out
          omega
        have cB := g1.cell
        have q2 := row_own (β := Unit) _ _ _ _ _ _ () W _ (some D) g2 (grownBy_putObj' W D (.deferred none)) (fun r e => by cases e; exact ⟨_, hK, rfl⟩)
        have q3 := row_own (β := Unit) _ _ _ _ _ _ () W _ (some D) g3 (grownBy_putObj' W D (.deferred none)) (fun r e => by cases e; exact ⟨_, hK, rfl⟩)
        have HF := Lib.hid (And.intro q2 (And.intro q3 (And.intro g4 (And.intro hml (And.intro hm60 hK)))))
        clear g1 g2 g3 g4 q2 q3 hml hm60
        gi_wp2
        refine ⟨by simp, .inl ⟨_, _, rfl, run_takeDeferred hK, ?_⟩⟩
        refine ⟨_, results_tmp3 rfl _ _ _, ?_⟩
        obtain ⟨q2, q3, g4, hml, hm60, _⟩ := HF.out
        obtain ⟨hl7, a7, c7, hv7, p1, p2, p3, p4⟩ := pkO_of_owns q2
        cases hv7
        obtain ⟨a8, c8, hv8, hz8, _⟩ := rowZ_owns14 q3 (by omega) (fun i hi => by have := HGN.out.1 i hi; have := HNL.out; omega)
        cases hv8
        refine ⟨a17, m, c17, a12, N, c12, rfl, g4.trans (belowK_b (w := w) (Nat.le_refl _) _ D _ _ (by have := hsz; omega) hK rfl rfl), ⟨hml, p1, by omega, p2, ?_, fun x hx => okP_64 (HVO.out.2.1 x ((polL_mem l []).subset hx))⟩, fun x hx => by have := p3 x hx; omega, by rw [HGE.out]; exact HZ12.out.2.2.symm, by rw [HGE.out]; exact hz8⟩
        rcases p4 with ⟨_, h0⟩ | ⟨g', ha, _, ho⟩
        · exact .inl ⟨h0, fun _ _ => trivial⟩
        · exact .inr ⟨g', 0, ha, ho.cells⟩

/-- Police, of a valid trace, flow and curve. -/
theorem police14 (a : Option Addr) (n cap : Nat) (l : List Pk) (fl : Int) (hv : vcode l = 0) (hfl : -1 ≤ fl) (af : Option Addr) (nf capf : Nat) (zs : List Int) (p : Nat) (inc : Int) (hp : In64 p) (hi : In64 inc) (g : Good zs p inc) (w : World) (h : PkR w a n cap l) (hz : RowZ w af nf capf zs) :
    Calls Try.prog 62 #[.slice a n cap, .int .i64 fl, curV af nf capf p inc] w (GivesPol (polL (atC zs p inc) fl [] l) (polI (atC zs p inc) fl 0 [] l) w) :=
  (callsIn_wide (n := 8)).1 (police_in a n cap l fl hv hfl af nf capf zs p inc hp hi g w h hz)
end Go.Proofs.Ytknimlpdpgpliaa
