/- Shape of package conform, of a valid trace, flow and curve. By the verifier's side. -/
import Derived.Test.YtknimlpdpgpliaaFCfY
import Derived.Test.YtknimlpdpgpliaaFCfGCfT
import Derived.Test.YtknimlpdpgpliaaFTrU
import Derived.Test.YtknimlpdpgpliaaFTrITrJ
namespace Go.Proofs.Ytknimlpdpgpliaa
open Go.RowKit
set_option linter.unusedSimpArgs false
set_option linter.unusedVariables false

theorem pkBox_setT {W : World} {B : Nat} {q : Pk} (h : PkBox W B q) (t : Int) : PkBox (W.setCell ⟨B, 1, none⟩ (.int .i64 t)) B ⟨q.f, t, q.s⟩ := block_set 1 (.int .i64 t) h
theorem pkBox_frozen {W : World} {B : Nat} {q : Pk} (h : PkBox W B q) (o : Nat) : W.frozen? ⟨B, o, none⟩ = false := by
  unfold PkBox at h
  simp [World.frozen?, h]
theorem pkBox_block {W V : World} {B : Nat} {q : Pk} (h : PkBox W B q) (hb : V.heap[B]? = W.heap[B]?) : PkBox V B q := hb.trans h
theorem pkBox_lt {W : World} {B : Nat} {q : Pk} (h : PkBox W B q) : B < W.heap.size := (Array.getElem?_eq_some_iff.1 (show W.heap[B]? = _ from h)).1
theorem owns_cell14 {w : World} {base n : Nat} {v : Value} {xs : List Value} {e : TypeId} {s : Nat} (h : w.ownsRow base e s v n xs) {b : Nat} (hb : ¬ v.ownBlock = some b) (i : Nat) (x : Value) : (w.setCell ⟨b, i, none⟩ x).ownsRow base e s v n xs := by
  obtain ⟨hl, hr⟩ := h
  refine ⟨hl, ?_⟩
  rcases hr with h0 | ⟨g, cap, cur, hv, hbase, hg, h1, h2, h3, h4⟩
  · exact .inl h0
  · refine .inr ⟨g, cap, cur, hv, hbase, ?_, h1, h2, h3, h4⟩
    rw [Below.heap_setCell _ _ _ _ (fun e => hb (by rw [hv, e]; rfl))]
    exact hg
/-- What stands between two packets of the trace. -/
structure ShW (w2 : World) (bs g : Nat) (v : Value) (acc cur : List Pk) (wx : World) : Prop where
  own : wx.ownsRow bs 76 3 v acc.reverse.length (pkV acc.reverse)
  below : Below w2.heap.size w2 wx
  size : bs ≤ wx.heap.size
  pk : PkO wx g 0 cur
theorem ShW.allocW {w2 : World} {bs g : Nat} {v : Value} {acc cur : List Pk} {wx : World} (h : ShW w2 bs g v acc cur wx) (o : Obj) : ShW w2 bs g v acc cur (wx.alloc o) :=
  ⟨h.own.alloc o, h.below.alloc h.below.size o, by have := h.size; simp; omega, h.pk.under ((Below.refl _ _).alloc (Nat.le_refl _) o)⟩
theorem ShW.call {w2 : World} {bs g : Nat} {v : Value} {acc cur : List Pk} {wx wy : World} (h : ShW w2 bs g v acc cur wx) (hb : Below wx.heap.size wx wy) : ShW w2 bs g v acc cur wy :=
  ⟨ownsP_below h.own hb, h.below.trans (hb.mono h.below.size), Nat.le_trans h.size hb.size, h.pk.under hb⟩
theorem ShW.box {w2 : World} {bs g : Nat} {v : Value} {acc cur : List Pk} {wx : World} (h : ShW w2 bs g v acc cur wx) {b : Nat} (hb : w2.heap.size ≤ b) (hg : g ≠ b) (hv : ¬ v.ownBlock = some b) (i : Nat) (x : Value) : ShW w2 bs g v acc cur (wx.setCell ⟨b, i, none⟩ x) :=
  ⟨owns_cell14 h.own hv i x, h.below.setCell (p := ⟨b, i, none⟩) hb x, by simpa [World.setCell] using h.size, h.pk.of_block (Below.heap_setCell _ _ _ _ hg)⟩
/-- What stands while the tick is looked for. -/
structure ShI (E : Nat → Int) (w2 : World) (bs g bq : Nat) (v v' : Value) (acc cur : List Pk) (q : Pk) (τ : Int) (b : Bool) (wx : World) : Prop where
  w : ShW w2 bs g v' (if b = true then ⟨q.f, τ, q.s⟩ :: acc else acc) cur wx
  bx : PkBox wx bq ⟨q.f, τ, q.s⟩
  ok : (exB E (τ + 1) 0 ((⟨q.f, τ, q.s⟩ : Pk) :: acc)).isNone = b
  same : b = false → v' = v
  hd : headT acc ≤ τ ∧ q.t ≤ τ ∧ τ ≤ 2000
  tr : tryT E q.f q.s acc (2001 - τ).toNat τ = shT E acc q
theorem ShI.of {E : Nat → Int} {w2 : World} {bs g bq : Nat} {v v' : Value} {acc cur : List Pk} {q : Pk} {τ : Int} {b : Bool} {wx wy : World} (hW : ShW w2 bs g v acc cur wx) (hbx : PkBox wx bq ⟨q.f, τ, q.s⟩) (hbv : ¬ v.ownBlock = some bq) (hd : headT acc ≤ τ ∧ q.t ≤ τ ∧ τ ≤ 2000) (tr : tryT E q.f q.s acc (2001 - τ).toNat τ = shT E acc q)
    (hgb : g < bs) (hw2 : w2.heap.size ≤ bs) (h1 : (exc14 E (acc.reverse ++ [⟨q.f, τ, q.s⟩])).isNone = b) (h2 : wy.ownsRow bs 76 3 v' (admL E acc.reverse ⟨q.f, τ, q.s⟩).length (pkV (admL E acc.reverse ⟨q.f, τ, q.s⟩))) (h3 : Below bs wx wy) (h4 : b = false → v' = v) (h5 : ∀ j, j < wx.heap.size → ¬ v.ownBlock = some j → wy.heap[j]? = wx.heap[j]?) :
    ShI E w2 bs g bq v v' acc cur q τ b wy := by
  have he : exc14 E (acc.reverse ++ [⟨q.f, τ, q.s⟩]) = exB E (τ + 1) 0 ((⟨q.f, τ, q.s⟩ : Pk) :: acc) := by rw [exc14_snoc, List.reverse_reverse]
  have hbx' := pkBox_block hbx (h5 bq (pkBox_lt hbx) hbv)
  refine ⟨⟨?_, hW.below.trans (h3.mono hw2), Nat.le_trans hW.size h3.size, hW.pk.of_block (h3.block g hgb)⟩, hbx', by rw [← he]; exact h1, h4, hd, tr⟩
  unfold admL at h2
  cases b with
  | true => rw [if_pos h1] at h2; rw [if_pos rfl, List.reverse_cons]; exact h2
  | false => rw [if_neg (by rw [h1]; decide)] at h2; rw [if_neg (by decide)]; exact h2
theorem exc_ok14 {E : Nat → Int} {acc : List Pk} {q : Pk} {τ : Int} (h : ShA E acc) (hq : okP q = true) (hd : headT acc ≤ τ ∧ q.t ≤ τ ∧ τ ≤ 2000) : ∀ x ∈ acc.reverse ++ [(⟨q.f, τ, q.s⟩ : Pk)], okP x = true ∧ x.t ≤ (⟨q.f, τ, q.s⟩ : Pk).t := fun x hx => by
  have hqo := (okP_iff q).1 hq
  rcases List.mem_append.1 hx with e | e
  · have hm := List.mem_reverse.1 e
    have := headT_max h.asc x hm
    exact ⟨h.ok x hm, by show x.t ≤ τ; omega⟩
  · rw [List.mem_singleton.1 e]
    exact ⟨(okP_iff _).2 ⟨hqo.1, hqo.2.1, by show 0 ≤ τ; omega, hd.2.2, hqo.2.2.2.2.1, hqo.2.2.2.2.2⟩, Int.le_refl _⟩
/-- Where the trace stands: k packets are done. -/
structure ShM (E : Nat → Int) (fl : Int) (l : List Pk) (o : Option (List Pk)) (k : Nat) (acc done : List Pk) : Prop where
  len : done.length = k
  few : acc.length ≤ k
  sh : (shL E fl acc (l.drop k)).map (done ++ ·) = o
  sha : ShA E acc
  ok : ∀ x ∈ done, okP x = true
theorem ShM.start {E : Nat → Int} {fl : Int} {l : List Pk} {o : Option (List Pk)} (h : shL E fl [] l = o) : ShM E fl l o 0 [] [] :=
  ⟨rfl, Nat.le_refl _, by rw [List.drop_zero, h]; cases o <;> rfl, ⟨asc_nil, fun q h => (by cases h), rfl⟩, fun q h => (by cases h)⟩
theorem ShM.skip {E : Nat → Int} {fl : Int} {l : List Pk} {o : Option (List Pk)} {k : Nat} {acc done : List Pk} {q : Pk} (h : ShM E fl l o k acc done) (hq : l[k]? = some q) (hn : ¬ (fl = -1 ∨ q.f = fl)) (hok : okP q = true) : ShM E fl l o (k + 1) acc (done ++ [q]) := by
  have h1 := h.sh
  rw [drop_at hq, shL_cons, if_neg hn] at h1
  refine ⟨by rw [List.length_append, h.len]; rfl, Nat.le_succ_of_le h.few, ?_, h.sha, fun x hx => ?_⟩
  · rw [← h1]; cases shL E fl acc (l.drop (k + 1)) with
    | none => rfl
    | some m => simp
  · rcases List.mem_append.1 hx with e | e
    · exact h.ok x e
    · rw [List.mem_singleton.1 e]; exact hok
theorem ShM.some {E : Nat → Int} {fl : Int} {l : List Pk} {o : Option (List Pk)} {k : Nat} {acc done : List Pk} {q : Pk} {τ : Int} (h : ShM E fl l o k acc done) (hq : l[k]? = Option.some q) (hn : fl = -1 ∨ q.f = fl) (hok : okP q = true) (hs : shT E acc q = Option.some τ) : ShM E fl l o (k + 1) (⟨q.f, τ, q.s⟩ :: acc) (done ++ [⟨q.f, τ, q.s⟩]) := by
  have h1 := h.sh
  rw [drop_at hq, shL_cons, if_pos hn, hs] at h1
  have hp := h.sha.push hok hs
  refine ⟨by rw [List.length_append, h.len]; rfl, by simp only [List.length_cons]; have := h.few; omega, ?_, hp, fun x hx => ?_⟩
  · rw [← h1]
    show _ = Option.map _ (Option.map _ _)
    cases shL E fl (⟨q.f, τ, q.s⟩ :: acc) (l.drop (k + 1)) with
    | none => rfl
    | some m => simp
  · rcases List.mem_append.1 hx with e | e
    · exact h.ok x e
    · rw [List.mem_singleton.1 e]; exact hp.ok _ (by simp)
theorem ShM.none {E : Nat → Int} {fl : Int} {l : List Pk} {o : Option (List Pk)} {k : Nat} {acc done : List Pk} {q : Pk} (h : ShM E fl l o k acc done) (hq : l[k]? = Option.some q) (hn : fl = -1 ∨ q.f = fl) (hs : shT E acc q = Option.none) : o = Option.none := by
  have h1 := h.sh
  rw [drop_at hq, shL_cons, if_pos hn, hs] at h1
  exact h1.symm
theorem ShM.fin {E : Nat → Int} {fl : Int} {l : List Pk} {o : Option (List Pk)} {k : Nat} {acc done : List Pk} (h : ShM E fl l o k acc done) (hk : l.length ≤ k) : o = Option.some done := by
  have h1 := h.sh
  rw [List.drop_of_length_le hk] at h1
  rw [← h1]; simp [shL]
theorem cur_at {done l : List Pk} {k : Nat} {q : Pk} (hd : done.length = k) (hq : l[k]? = some q) : (done ++ l.drop k)[k]? = some q := by
  rw [List.getElem?_append_right (by omega), hd, Nat.sub_self, drop_at hq]; rfl
theorem cur_skip {done l : List Pk} {k : Nat} {q : Pk} (hq : l[k]? = some q) : done ++ l.drop k = (done ++ [q]) ++ l.drop (k + 1) := by rw [drop_at hq]; simp
theorem cur_set {done l : List Pk} {k : Nat} {q x : Pk} (hd : done.length = k) (hq : l[k]? = some q) : (done ++ l.drop k).set k x = (done ++ [x]) ++ l.drop (k + 1) := by
  rw [drop_at hq, List.set_append_right _ _ (by omega), hd, Nat.sub_self]; simp

/-- Shape's answer. -/
def shapeC (o : Option (List Pk)) : Int := if o.isSome = true then 0 else 5
def shapeL (o : Option (List Pk)) : List Pk := match o with
  | some m => isort m
  | none => []

set_option maxRecDepth 100000 in
set_option maxHeartbeats 6400000 in
theorem shape14 (a : Option Addr) (n cap : Nat) (l : List Pk) (fl : Int) (hv : vcode l = 0) (hfl : -1 ≤ fl) (af : Option Addr) (nf capf : Nat) (zs : List Int) (p : Nat) (inc : Int) (hp : In64 p) (hi : In64 inc) (g : Good zs p inc) (o : Option (List Pk)) (ho : shL (atC zs p inc) fl [] l = o) (w : World) (h : PkR w a n cap l) (hz : RowZ w af nf capf zs) :
    Calls Try.prog 64 #[.slice a n cap, .int .i64 fl, curV af nf capf p inc] w (GivesPkF (shapeC o) (shapeL o) w) := by
  obtain ⟨W, hW⟩ : ∃ W, w.alloc (.cells #[.slice af nf capf, .int .i64 p, .int .i64 inc] 26) = W := ⟨_, rfl⟩
  have hbw : Below w.heap.size w W := by rw [← hW]; exact (Below.refl _ _).alloc (Nat.le_refl _) _
  obtain ⟨n0, n1, n2⟩ : W.cell? ⟨w.heap.size, 0, none⟩ = some (.slice af nf capf) ∧ W.cell? ⟨w.heap.size, 1, none⟩ = some (.int .i64 p) ∧ W.cell? ⟨w.heap.size, 2, none⟩ = some (.int .i64 inc) := by rw [← hW]; exact ⟨cell_new13 rfl, cell_new13 rfl, cell_new13 rfl⟩
  have hwl : w.heap.size < W.heap.size := by rw [← hW]; simp
  have key : Calls Try.prog 98 #[.slice a n cap, .int .i64 fl, curV af nf capf p inc] W fun e w' => e = .returned (.int .i64 0) ∧ Hid (Below w.heap.size w w') ∧ Hid (PkR w' a n cap l ∧ RowZ w' af nf capf zs) ∧ w'.cell? ⟨w.heap.size, 0, none⟩ = some (.slice af nf capf) ∧ w'.cell? ⟨w.heap.size, 1, none⟩ = some (.int .i64 p) ∧ w'.cell? ⟨w.heap.size, 2, none⟩ = some (.int .i64 inc) := by
    refine (faultAll14 a n cap l fl 0 af nf capf zs p inc hp hi (by rw [(okC_iff zs p inc).2 g]; exact acode_yes hv hfl) W (h.under hbw) (hz.under hbw)).mono ?_
    rintro e w1 ⟨rfl, hb1⟩
    exact ⟨rfl, Lib.hid (hbw.trans (hb1.mono hbw.size)), Lib.hid ⟨(h.under hbw).under hb1, (hz.under hbw).under hb1⟩, (hb1.cell hwl).trans n0, (hb1.cell hwl).trans n1, (hb1.cell hwl).trans n2⟩
  have KEY := Lib.hid key
  have HG := Lib.hid g
  have HVO := Lib.hid (vcode_ok hv)
  have HM0 := Lib.hid (ShM.start ho)
  have hsm := h.sm
  clear key hwl hbw hp hi g h hz hv ho
  go_enter Try.func64, Try.ntmps64
  go_wp2_with fail
  refine KEY.out.mono ?_
  rintro e w1 ⟨rfl, hb1, hz1, m0, m1, m2⟩
  go_wp2_with fail
  refine (pvalues_any af nf capf zs p inc HG.out _ hz1.out.2).mono ?_
  rintro e w2 ⟨B, rfl, hb2, hBw, hBl, hcl⟩
  have HB2 := Lib.hid (And.intro (hb1.out.trans (hb2.mono hb1.out.size)) hcl)
  have HP2 := Lib.hid (hz1.out.1.under hb2)
  clear hb2 hcl m0 m1 m2 hb1 hz1
  go_wp2_with fail
  refine (clone13 a n cap l _ HP2.out).mono ?_
  rintro e w3 ⟨a3, n3, cap3, rfl, hb3, hl3, hc1, hc2, hx3, hg3⟩
  obtain rfl : n3 = n := by rw [← hl3, HP2.out.len]
  have hn60 : n3 ≤ 60 := by rw [← hl3]; exact HVO.out.1
  have HC3 := Lib.hid (And.intro hl3 (And.intro hc1 (And.intro hc2 (And.intro hb3 hx3))))
  clear hl3 hc1 hc2 hb3 hx3
  rcases hg3 with h0 | ⟨g, rfl, hg2, hpo⟩
  · subst h0
    have hll : l = [] := List.length_eq_zero_iff.1 HC3.out.1
    subst hll
    obtain rfl : o = some [] := HM0.out.fin (Nat.le_refl _)
    go_wp2_with fail
    refine wp_loop_rounds 1 ?_
    rw [rounds_succ]
    go_wp2_with fail
    refine (order13 a3 0 cap3 [] (by omega) _ ⟨rfl, Nat.zero_le _, by omega, HC3.out.2.2.1, .inl ⟨rfl, fun _ _ => trivial⟩, fun q h => (by cases h)⟩).mono ?_
    rintro e w5 ⟨a5, n5, c5, rfl, hb5, hl5, h51, h52, hx5, hg5⟩
    have HF := Lib.hid (And.intro (HC3.out.2.2.2.1.trans (hb5.mono HC3.out.2.2.2.1.size)) (And.intro (GivesPk.row hl5 h51 h52 (by rw [← hl5]; decide) (fun q hq => (by cases hq)) hg5) hx5))
    have hs3 := HC3.out.2.2.2.1.size
    clear hb5 hl5 h51 h52 hx5 hg5
    go_wp2_with fail
    go_ret2
    exact ⟨a5, n5, c5, rfl, HB2.out.1.trans (HF.out.1.mono HB2.out.1.size), HF.out.2.1, fun x hx => by have := HF.out.2.2 x hx; have := HB2.out.1.size; omega⟩
  · have hgl : g < w3.heap.size := hpo.lt
    have HS0 := Lib.hid (show ShW w2 w3.heap.size g (.slice none 0 0) [] ([] ++ l.drop 0) w3 from ⟨World.ownsRow_nil _ _ _ _, HC3.out.2.2.2.1, Nat.le_refl _, by simpa using hpo⟩)
    have hw23 : w2.heap.size ≤ w3.heap.size := HC3.out.2.2.2.1.size
    obtain ⟨bs, hbs⟩ : ∃ bs, w3.heap.size = bs := ⟨_, rfl⟩
    rw [hbs] at HS0 hgl hw23
    have HCL := Lib.hid (show ∀ wk : World, Below w2.heap.size w2 wk → ∀ W, Below bs wk W → ClosG 152 #[.pointer (some ⟨B + 1, 0, none⟩), .pointer (some ⟨B, 0, none⟩)] 4194304 (atC zs p inc) W from fun wk hk W hW => HB2.out.2.above (hk.trans (hW.mono hw23)))
    clear hpo hbs
    go_wp2_with fail
    go_loopw [30, 10, 12] (fun s30 s10 s12 wx => ∃ (k : Nat) (acc done : List Pk) (bf : Int), s30 = .int .i64 k ∧ s12 = .int .i64 bf ∧ k ≤ n3 ∧ Hid (headT acc = bf) ∧ Hid (ShM (atC zs p inc) fl l o k acc done) ∧ Hid (ShW w2 bs g s10 acc (done ++ l.drop k) wx)) (fun s30 _ _ _ => n3 - (intOf s30).toNat)
    case atStart => exact ⟨0, [], [], 0, by go_num, rfl, Nat.zero_le _, rfl, HM0, HS0⟩
    case round =>
      obtain ⟨k, acc, done, bf, rfl, rfl, hk, HBF, HM, HS⟩ := hrel
      obtain ⟨wk, rfl⟩ : ∃ u : World, u = wr := ⟨_, rfl⟩
      obtain ⟨v10, rfl⟩ : ∃ u : Value, u = u10 := ⟨_, rfl⟩
      by_cases hlt : k < n3
      · have hlI : (k : Int) < (n3 : Int) := by omega
        obtain ⟨q, hq⟩ : ∃ q, l[k]? = some q := ⟨_, List.getElem?_eq_getElem (by rw [HC3.out.1]; exact hlt)⟩
        have hqok := HVO.out.2.1 q (List.mem_of_getElem? hq)
        have hqo := (okP_iff q).1 hqok
        obtain ⟨c0, c1, c2⟩ := HS.out.pk.cells k q (cur_at HM.out.len hq)
        simp only [Nat.zero_add] at c0 c1 c2
        have HQ := Lib.hid (And.intro hq hqok)
        clear hq hqok
        go_upto_region 11 with fail
        obtain ⟨u, hu⟩ : ∃ u : World, wk.alloc (.cells #[.int .i64 q.f, .int .i64 q.t, .int .i64 q.s] 76) = u := ⟨_, rfl⟩
        have bxu : PkBox u wk.heap.size q := by rw [← hu]; exact PkBox.new wk q
        obtain ⟨x0, x1, x2⟩ := bxu.cells
        have HSU := Lib.hid (show ShW w2 bs g v10 acc (done ++ l.drop k) u from by rw [← hu]; exact HS.out.allocW _)
        have hvb : ¬ v10.ownBlock = some wk.heap.size := fun e => by have := (HS.out.own.lt _ e).2; omega
        have hgw : g ≠ wk.heap.size := by have := HS.out.pk.lt; omega
        have hbw2 : w2.heap.size ≤ wk.heap.size := HS.out.below.size
        have HBX := Lib.hid (And.intro bxu (And.intro hvb (And.intro hgw hbw2)))
        rw [hu]
        clear hu c0 c1 c2 bxu hvb hgw hbw2
        by_cases hbel : fl = -1 ∨ q.f = fl
        case neg =>
          have HN := Lib.hid (HM.out.skip HQ.out.1 hbel HQ.out.2)
          have hbb := belongs14 q fl false (decide_eq_false hbel)
          have HBB := Lib.hid hbb
          have HCS := Lib.hid (cur_skip (done := done) HQ.out.1)
          clear hbb hbel
          go_wp2_with fail
          refine (HBB.out _).mono ?_
          rintro e w4 ⟨rfl, hb4⟩
          have HS4 := Lib.hid (show ShW w2 bs g v10 acc ((done ++ [q]) ++ l.drop (k + 1)) w4 from by rw [← HCS.out]; exact HSU.out.call hb4)
          clear hb4
          go_wp2_with fail
          go_roundw
          case rel => exact ⟨k + 1, acc, done ++ [q], bf, by go_num, rfl, by omega, HBF, HN, HS4⟩
          case measure => first | (simp [intOf]; done) | (simp [intOf]; omega)
        case pos =>
          have hbb := belongs14 q fl true (decide_eq_true hbel)
          have HBB := Lib.hid hbb
          have HBEL := Lib.hid hbel
          clear hbb hbel
          go_wp2_with fail
          refine (HBB.out _).mono ?_
          rintro e w4 ⟨rfl, hb4⟩
          have bx4 : PkBox w4 wk.heap.size q := pkBox_block HBX.out.1 (hb4.block _ (pkBox_lt HBX.out.1))
          obtain ⟨y0, y1, y2⟩ := bx4.cells
          have fy := pkBox_frozen bx4
          have HS4 := Lib.hid (HSU.out.call hb4)
          have HX4 := Lib.hid bx4
          obtain ⟨τ0, hτ⟩ : ∃ τ0, max q.t bf = τ0 := ⟨_, rfl⟩
          have hbf := headT_bd HM.out.sha.ok
          rw [HBF.out] at hbf
          have HD0 := Lib.hid (show headT acc ≤ τ0 ∧ q.t ≤ τ0 ∧ τ0 ≤ 2000 from by rw [HBF.out]; omega)
          have HT0 := Lib.hid (show tryT (atC zs p inc) q.f q.s acc (2001 - τ0).toNat τ0 = shT (atC zs p inc) acc q from by unfold shT; rw [HBF.out, hτ])
          obtain ⟨hbf1, hbf2⟩ := hbf
          clear hb4 bx4 x0 x1 x2
          go_upto_region 12 with fail
          go_cut [39] (fun s39 wx => wx = w4.setCell ⟨wk.heap.size, 1, none⟩ (.int .i64 τ0))
          case first =>
            go_wp2_with fail
            all_goals go_meet
            all_goals first | (rw [show τ0 = bf by omega]; done) | (rw [show τ0 = q.t by omega]; done) | (rw [show τ0 = bf by omega]; rfl) | (rw [show τ0 = q.t by omega]; rfl)
          case rest =>
            have hcw := hcut
            rw [hcw]
            clear hcw
            obtain ⟨u4, hu4⟩ : ∃ u : World, w4.setCell ⟨wk.heap.size, 1, none⟩ (.int .i64 τ0) = u := ⟨_, rfl⟩
            have bx5 : PkBox u4 wk.heap.size ⟨q.f, τ0, q.s⟩ := by rw [← hu4]; exact pkBox_setT HX4.out τ0
            have HS5 := Lib.hid (show ShW w2 bs g v10 acc (done ++ l.drop k) u4 from by rw [← hu4]; exact HS4.out.box HBX.out.2.2.2 HBX.out.2.2.1 HBX.out.2.1 1 _)
            obtain ⟨z0, z1, z2⟩ := bx5.cells
            have HX5 := Lib.hid bx5
            try rw [hu4]
            clear hu4 y0 y1 y2 fy bx5
            dsimp only at z0 z1 z2
            have hA := admitB bs v10 acc.reverse ⟨q.f, τ0, q.s⟩ (by rw [List.length_reverse]; have := HM.out.few; omega) (exc_ok14 HM.out.sha HQ.out.2 HD0.out) B (atC zs p inc) u4 HS5.out.own HS5.out.size (HCL.out u4 HS5.out.below)
            have HA := Lib.hid hA
            clear hA
            go_wp2_with fail
            refine HA.out.mono ?_
            rintro e w5 ⟨v15, b5, rfl, h51, h52, h53, h54, h55⟩
            have HI := Lib.hid (ShI.of HS5.out HX5.out HBX.out.2.1 HD0.out HT0.out hgl hw23 h51 h52 h53 h54 h55)
            clear h51 h52 h53 h54 h55
            go_wp2_with fail
            skip
            go_loopg [15, 16] (2001 - τ0).toNat (fun gg s15 s16 wx => ∃ (b : Bool) (τ : Int), s16 = .bool b ∧ τ + (gg : Int) = 2001 ∧ Hid (ShI (atC zs p inc) w2 bs g wk.heap.size v10 s15 acc (done ++ l.drop k) q τ b wx))
            case atStart => exact ⟨b5, τ0, rfl, by have := HD0.out; omega, HI⟩
            case round =>
              obtain ⟨b, τ, rfl, hgg, HI2⟩ := hrel
              obtain ⟨wi, rfl⟩ : ∃ u : World, u = wr := ⟨_, rfl⟩
              obtain ⟨v15b, rfl⟩ : ∃ u : Value, u = u15 := ⟨_, rfl⟩
              obtain ⟨z0, z1, z2⟩ := HI2.out.bx.cells
              have fz := pkBox_frozen HI2.out.bx
              dsimp only at z0 z1 z2
              cases b with
              | true =>
                have HTS := Lib.hid (show shT (atC zs p inc) acc q = some τ from by rw [← HI2.out.tr]; exact tryT_now HI2.out.ok (by have := HI2.out.hd; omega))
                have HMN := Lib.hid (HM.out.some HQ.out.1 HBEL.out HQ.out.2 HTS.out)
                have HSN := Lib.hid (show ShW w2 bs g v15b (⟨q.f, τ, q.s⟩ :: acc) (done ++ l.drop k) wi from HI2.out.w)
                have HSET := Lib.hid (show PkO (((wi.setCell ⟨g, 0 + k * 3, none⟩ (.int .i64 q.f)).setCell ⟨g, 0 + k * 3 + 1, none⟩ (.int .i64 τ)).setCell ⟨g, 0 + k * 3 + 2, none⟩ (.int .i64 q.s)) g 0 ((done ++ [⟨q.f, τ, q.s⟩]) ++ l.drop (k + 1)) from by
                  rw [← cur_set HM.out.len HQ.out.1]
                  exact HSN.out.pk.set (i := k) (by rw [List.length_append, HM.out.len, List.length_drop, HC3.out.1]; omega) ⟨q.f, τ, q.s⟩)
                have fg := HSN.out.pk.frozen
                obtain ⟨d0, d1, d2⟩ := HSN.out.pk.cells k q (cur_at HM.out.len HQ.out.1)
                simp only [Nat.zero_add] at d0 d1 d2
                clear hgg
                go_wp2_with fail
                refine wp_region_keeps (fun u => u.cell? ⟨wk.heap.size, 0, none⟩ = some (.int .i64 q.f) ∧ u.cell? ⟨wk.heap.size, 1, none⟩ = some (.int .i64 τ) ∧ u.cell? ⟨wk.heap.size, 2, none⟩ = some (.int .i64 q.s)) 8 2 (by kernel_rfl) (by kernel_rfl) ⟨z0, z1, z2⟩ (fun hHeld => ?_)
                refine wpAnyK_take (i := 0) (v := ?_) rfl (by kernel_rfl) (fun _ _ _ h => h) (Or.inl ⟨by rfl, ?_⟩) (by assumption) ?_
                rotate_left
                · (intro w hSw; (try dsimp only at hSw); (try obtain ⟨f0, f1, f2⟩ := hSw); go_simp; try with_reducible rfl)
                try simp only [Act.put, List.getElem_toArray, List.getElem_cons_zero, List.getElem_cons_succ, List.setIfInBounds_toArray, List.set_cons_zero, List.set_cons_succ]
                refine wpAnyK_take (i := 1) (v := ?_) rfl (by kernel_rfl) (fun _ _ _ h => h) (Or.inl ⟨by rfl, ?_⟩) (by assumption) ?_
                rotate_left
                · (intro w hSw; (try dsimp only at hSw); (try obtain ⟨f0, f1, f2⟩ := hSw); go_simp; try with_reducible rfl)
                try simp only [Act.put, List.getElem_toArray, List.getElem_cons_zero, List.getElem_cons_succ, List.setIfInBounds_toArray, List.set_cons_zero, List.set_cons_succ]
                refine wpAnyK_take (i := 2) (v := ?_) rfl (by kernel_rfl) (fun _ _ _ h => h) (Or.inl ⟨by rfl, ?_⟩) (by assumption) ?_
                rotate_left
                · (intro w hSw; (try dsimp only at hSw); (try obtain ⟨f0, f1, f2⟩ := hSw); go_simp; try with_reducible rfl)
                try simp only [Act.put, List.getElem_toArray, List.getElem_cons_zero, List.getElem_cons_succ, List.setIfInBounds_toArray, List.set_cons_zero, List.set_cons_succ]
                refine wpAnyK_take (i := 3) (v := ?_) rfl (by kernel_rfl) (fun _ _ _ h => h) (Or.inl ⟨by rfl, ?_⟩) (by assumption) ?_
                rotate_left
                · (intro w hSw; (try dsimp only at hSw); (try obtain ⟨f0, f1, f2⟩ := hSw); go_simp; try with_reducible rfl)
                try simp only [Act.put, List.getElem_toArray, List.getElem_cons_zero, List.getElem_cons_succ, List.setIfInBounds_toArray, List.set_cons_zero, List.set_cons_succ]
                refine wpAnyK_take (i := 4) (v := ?_) rfl (by kernel_rfl) (fun _ _ _ h => h) (Or.inl ⟨by rfl, ?_⟩) (by assumption) ?_
                rotate_left
                · (intro w hSw; (try dsimp only at hSw); (try obtain ⟨f0, f1, f2⟩ := hSw); go_simp; try with_reducible rfl)
                try simp only [Act.put, List.getElem_toArray, List.getElem_cons_zero, List.getElem_cons_succ, List.setIfInBounds_toArray, List.set_cons_zero, List.set_cons_succ]
                refine wpAnyK_take (i := 5) (v := ?_) rfl (by kernel_rfl) (fun _ _ _ h => h) (Or.inl ⟨by rfl, ?_⟩) (by assumption) ?_
                rotate_left
                · (intro w hSw; (try dsimp only at hSw); (try obtain ⟨f0, f1, f2⟩ := hSw); go_simp; try with_reducible rfl)
                try simp only [Act.put, List.getElem_toArray, List.getElem_cons_zero, List.getElem_cons_succ, List.setIfInBounds_toArray, List.set_cons_zero, List.set_cons_succ]
                refine wpAnyK_take (i := 6) (v := ?_) rfl (by kernel_rfl) (fun _ _ _ h => h) (Or.inl ⟨by rfl, ?_⟩) (by assumption) ?_
                rotate_left
                · (intro w hSw; (try dsimp only at hSw); (try obtain ⟨f0, f1, f2⟩ := hSw); go_simp; try with_reducible rfl)
                try simp only [Act.put, List.getElem_toArray, List.getElem_cons_zero, List.getElem_cons_succ, List.setIfInBounds_toArray, List.set_cons_zero, List.set_cons_succ]
                refine wpAnyK_take (i := 7) (v := ?_) rfl (by kernel_rfl) (fun _ _ _ h => h) (Or.inl ⟨by rfl, ?_⟩) (by assumption) ?_
                rotate_left
                · (intro w hSw; (try dsimp only at hSw); (try obtain ⟨f0, f1, f2⟩ := hSw); go_simp; try with_reducible rfl)
                try simp only [Act.put, List.getElem_toArray, List.getElem_cons_zero, List.getElem_cons_succ, List.setIfInBounds_toArray, List.set_cons_zero, List.set_cons_succ]
                refine wpAnyK_done (by kernel_rfl) ?_
                simp only [List.drop_succ_cons, List.drop_zero]
                clear hHeld
                have hvg : ¬ v15b.ownBlock = some g := fun e => by have := (HSN.out.own.lt _ e).1; omega
                have HFIN := Lib.hid (show ShW w2 bs g v15b (⟨q.f, τ, q.s⟩ :: acc) ((done ++ [⟨q.f, τ, q.s⟩]) ++ l.drop (k + 1)) (((wi.drew.setCell ⟨g, k * 3, none⟩ (.int .i64 q.f)).setCell ⟨g, k * 3 + 1, none⟩ (.int .i64 τ)).setCell ⟨g, k * 3 + 2, none⟩ (.int .i64 q.s)) from ⟨owns_cell14 (owns_cell14 (owns_cell14 (show wi.drew.ownsRow _ _ _ _ _ _ from HSN.out.own) hvg _ _) hvg _ _) hvg _ _, ((((HSN.out.below.drew).setCell (p := ⟨g, k * 3, none⟩) hg2 _).setCell (p := ⟨g, k * 3 + 1, none⟩) hg2 _).setCell (p := ⟨g, k * 3 + 2, none⟩) hg2 _), by simpa [World.setCell] using HSN.out.size, by have := HSET.out; rw [Nat.zero_add] at this; exact this⟩)
                clear hvg
                go_wp2_with fail
                go_roundw
                case rel => exact ⟨k + 1, ⟨q.f, τ, q.s⟩ :: acc, done ++ [⟨q.f, τ, q.s⟩], τ, by go_num, rfl, by omega, Lib.hid rfl, HMN, HFIN⟩
                case measure => first | (simp [intOf]; done) | (simp [intOf]; omega)
              | false =>
                obtain rfl : v15b = v10 := HI2.out.same rfl
                have HSF := Lib.hid (show ShW w2 bs g v15b acc (done ++ l.drop k) wi from HI2.out.w)
                have HBI := Lib.hid HI2.out.bx
                have hd := HI2.out.hd
                have htr := HI2.out.tr
                have hno := HI2.out.ok
                by_cases hτ2 : τ < 2000
                · cases gk with
                  | zero => exfalso; omega
                  | succ gk =>
                    have htr2 : tryT (atC zs p inc) q.f q.s acc (2001 - (τ + 1)).toNat (τ + 1) = shT (atC zs p inc) acc q := by
                      obtain ⟨j, hj⟩ : ∃ j, (2001 - τ).toNat = j + 1 := ⟨(2000 - τ).toNat, by omega⟩
                      rw [hj] at htr
                      unfold tryT at htr
                      rw [if_neg (by rw [hno]; decide)] at htr
                      rw [show (2001 - (τ + 1)).toNat = j by omega]; exact htr
                    have hd2 : headT acc ≤ τ + 1 ∧ q.t ≤ τ + 1 ∧ τ + 1 ≤ 2000 := by omega
                    have hwτ : IntKind.i64.wrap (τ + 1) = τ + 1 := IntWalk.i64_in _ ⟨by have := headT_bd HM.out.sha.ok; omega, by omega⟩
                    have HTR := Lib.hid (And.intro htr2 (And.intro hd2 hgg))
                    clear htr htr2 hd hd2 hno hgg
                    go_upto_region 16 with fail
                    obtain ⟨u5, hu5⟩ : ∃ u : World, wi.setCell ⟨wk.heap.size, 1, none⟩ (.int .i64 (τ + 1)) = u := ⟨_, rfl⟩
                    have bx6 : PkBox u5 wk.heap.size ⟨q.f, τ + 1, q.s⟩ := by rw [← hu5]; exact pkBox_setT HBI.out (τ + 1)
                    have HS6 := Lib.hid (show ShW w2 bs g v15b acc (done ++ l.drop k) u5 from by rw [← hu5]; exact HSF.out.box HBX.out.2.2.2 HBX.out.2.2.1 HBX.out.2.1 1 _)
                    obtain ⟨t0, t1, t2⟩ := bx6.cells
                    have HX6 := Lib.hid bx6
                    try rw [hu5]
                    clear hu5 z0 z1 z2 fz bx6
                    dsimp only at t0 t1 t2
                    have hA := admitB bs v15b acc.reverse ⟨q.f, τ + 1, q.s⟩ (by rw [List.length_reverse]; have := HM.out.few; omega) (exc_ok14 HM.out.sha HQ.out.2 HTR.out.2.1) B (atC zs p inc) u5 HS6.out.own HS6.out.size (HCL.out u5 HS6.out.below)
                    have HA2 := Lib.hid hA
                    clear hA
                    go_wp2_with fail
                    refine HA2.out.mono ?_
                    rintro e w7 ⟨v16, b7, rfl, h51, h52, h53, h54, h55⟩
                    have HI7 := Lib.hid (ShI.of HS6.out HX6.out HBX.out.2.1 HTR.out.2.1 HTR.out.1 hgl hw23 h51 h52 h53 h54 h55)
                    clear h51 h52 h53 h54 h55
                    go_wp2_with fail
                    go_roundg gk
                    case rel => exact ⟨b7, τ + 1, rfl, by have := HTR.out.2.2; omega, HI7⟩
                    case measure => omega
                · have hs : shT (atC zs p inc) acc q = none := by
                    rw [← htr, show (2001 - τ).toNat = 1 by omega]
                    unfold tryT
                    rw [if_neg (by rw [hno]; decide)]; rfl
                  obtain rfl : o = none := HM.out.none HQ.out.1 HBEL.out hs
                  clear htr hd hno hs hgg
                  go_wp2_with fail
                  go_ret2
                  exact GivesPkF.nil (HB2.out.1.trans (HSF.out.below.mono HB2.out.1.size))
      · obtain rfl : k = n3 := by omega
        have hlI : ¬ (k : Int) < (k : Int) := by omega
        have ho := HM.out.fin (by rw [HC3.out.1]; exact Nat.le_refl _)
        subst ho
        have hdl : done.length = k := HM.out.len
        have hpk : PkO wk g 0 done := by have := HS.out.pk; rwa [List.drop_of_length_le (by rw [HC3.out.1]; exact Nat.le_refl _), List.append_nil] at this
        have HPR := Lib.hid (show PkR wk (some ⟨g, 0, none⟩) k cap3 done from ⟨hdl, HC3.out.2.1, by omega, HC3.out.2.2.1, .inr ⟨g, 0, rfl, hpk.cells⟩, fun x hx => okP_64 (HM.out.ok x hx)⟩)
        clear hpk hdl
        go_wp2_with fail
        refine (order13 (some ⟨g, 0, none⟩) k cap3 done (by omega) _ HPR.out).mono ?_
        rintro e w6 ⟨a5, n5, c5, rfl, hb5, hl5, h51, h52, hx5, hg5⟩
        have hbb := HS.out.below
        have HF := Lib.hid (And.intro (hbb.trans (hb5.mono hbb.size)) (And.intro (GivesPk.row hl5 h51 h52 (by rw [← hl5, isort_length, HM.out.len]; omega) (fun x hx => okP_64 (HM.out.ok x ((mem_isort _ _).1 hx))) hg5) (show ∀ x, a5 = some x → w.heap.size ≤ x.block from fun x hx => by have := hx5 x hx; have := hbb.size; have := HB2.out.1.size; omega)))
        clear hb5 hl5 h51 h52 hx5 hg5 hbb
        go_wp2_with fail
        go_ret2
        exact ⟨a5, n5, c5, rfl, HB2.out.1.trans (HF.out.1.mono HB2.out.1.size), HF.out.2.1, HF.out.2.2⟩
end Go.Proofs.Ytknimlpdpgpliaa
