/- admit, belongs, outside, fault and faultOfAll of package conform. By the verifier's side. -/
import Derived.Test.YtknimlpdpgpliaaFCfA
import Derived.Test.YtknimlpdpgpliaaFCurNCurBCurV
namespace Go.Proofs.Ytknimlpdpgpliaa
open Go.RowKit
set_option linter.unusedSimpArgs false
set_option linter.unusedVariables false

/-- The packets that have passed, and one more, if they may. -/
def admL (E : Nat → Int) (l : List Pk) (q : Pk) : List Pk := if (exc14 E (l ++ [q])).isNone = true then l ++ [q] else l
/-- What admit hands back: a list of one's own, from a base on. -/
def GivesAdB (bs : Nat) (E : Nat → Int) (v : Value) (l : List Pk) (q : Pk) (w : World) (e : Ending) (w' : World) : Prop :=
  ∃ v' b, e = .returned (.tuple #[v', .bool b]) ∧ (exc14 E (l ++ [q])).isNone = b ∧ w'.ownsRow bs 76 3 v' (admL E l q).length (pkV (admL E l q)) ∧ Below bs w w' ∧ (b = false → v' = v) ∧ (∀ j, j < w.heap.size → ¬ v.ownBlock = some j → w'.heap[j]? = w.heap[j]?)

set_option maxRecDepth 100000 in
set_option maxHeartbeats 1600000 in
theorem admitB (bs : Nat) (v : Value) (l : List Pk) (q : Pk) (hl : l.length ≤ 60) (hok : ∀ x ∈ l ++ [q], okP x = true ∧ x.t ≤ q.t) (B : Nat) (E : Nat → Int) (w : World) (ho : w.ownsRow bs 76 3 v l.length (pkV l)) (hbs : bs ≤ w.heap.size)
    (hcl : ∀ W, Below bs w W → ClosG 152 #[.pointer (some ⟨B + 1, 0, none⟩), .pointer (some ⟨B, 0, none⟩)] 4194304 E W) :
    Calls Try.prog 104 #[v, .agg #[.int .i64 q.f, .int .i64 q.t, .int .i64 q.s], closPV B] w (GivesAdB bs E v l q w) := by
  obtain ⟨v', w', hr, h1, h2, h3, h4⟩ := run_append_keep bs 45 v l q (by omega) ((w.alloc (.cells #[.int .i64 q.f, .int .i64 q.t, .int .i64 q.s] 76)).alloc (.cells #[.int .i64 q.f, .int .i64 q.t, .int .i64 q.s] 76)) ((ho.alloc _).alloc _) (by simp; omega) (w.heap.size + 1) 1
    (by
      have e : (w.alloc (.cells #[.int .i64 q.f, .int .i64 q.t, .int .i64 q.s] 76)).heap.size = w.heap.size + 1 := by simp
      rw [← e]
      exact ⟨cell_new13 rfl, cell_new13 rfl, cell_new13 rfl⟩)
  have hb1 : Below bs w w' := (((Below.refl bs w).alloc hbs _).alloc (by simp; omega) _).trans h3
  have hkeep : ∀ j, j < w.heap.size → ¬ v.ownBlock = some j → w'.heap[j]? = w.heap[j]? := fun j hj hne => by
    have hb : Below w.heap.size w ((w.alloc (.cells #[.int .i64 q.f, .int .i64 q.t, .int .i64 q.s] 76)).alloc (.cells #[.int .i64 q.f, .int .i64 q.t, .int .i64 q.s] 76)) := ((Below.refl _ _).alloc (Nat.le_refl _) _).alloc (by simp) _
    exact (h4 j (by simp; omega) hne).trans (hb.block j hj)
  have hws : w.heap.size ≤ w'.heap.size := by have := h3.size; simp at this; omega
  have h1' : w'.ownsRow bs 76 3 v' (l ++ [q]).length (pkV (l ++ [q])) := by rw [List.length_append]; exact h1
  obtain ⟨hlx, a', cap', hv, g1, g2, g3, g4⟩ := pkO_of_owns h1'
  subst hv
  have hpr : PkR w' a' (l ++ [q]).length cap' (l ++ [q]) := ⟨rfl, g1, by rw [List.length_append]; simp; omega, g2, by
    rcases g4 with ⟨_, h0⟩ | ⟨g', ha, _, ho⟩
    · exact .inl ⟨h0, fun _ _ => trivial⟩
    · exact .inr ⟨g', 0, ha, ho.cells⟩, fun x hx => okP_64 (hok x hx).1⟩
  have hex := excess14 a' _ cap' (l ++ [q]) l q rfl (by rw [List.length_append]; simp; omega) hok B E w' hpr (hcl w' hb1)
  obtain ⟨n1, hn1⟩ : ∃ n1, (l ++ [q]).length = n1 := ⟨_, rfl⟩
  rw [hn1] at hr hex h1'
  have hbs' : bs ≤ w'.heap.size := Nat.le_trans hbs hb1.size
  have HN := Lib.hid (And.intro h1' (And.intro h2 (And.intro hb1 (And.intro hn1 (And.intro hbs' (And.intro hkeep hws))))))
  obtain ⟨o, hoo⟩ : ∃ o, exc14 E (l ++ [q]) = o := ⟨_, rfl⟩
  rw [hoo] at hex
  have HO := Lib.hid hoo
  have HR := Lib.hid hr
  have HE := Lib.hid hex
  clear ho hcl hok h1 h2 h3 h4 hkeep hws hb1 h1' hpr hex hoo hr hn1 g1 g2 g3 g4 hlx hbs hbs'
  cases o with
  | none =>
    go_enter Try.func104, Try.ntmps104
    go_wp2_with (at_builtin; refine Lib.wpList_append_run _ rfl _ _ 45 45 rfl _ _ rfl rfl _ _ HR.out ?_)
    refine HE.out.mono ?_
    rintro e w2 ⟨rfl, hb2⟩
    have HN2 := Lib.hid (And.intro (ownsP_below HN.out.1 hb2) (And.intro (HN.out.2.2.1.trans (hb2.mono HN.out.2.2.2.2.1)) (show ∀ j, j < w.heap.size → ¬ v.ownBlock = some j → w2.heap[j]? = w.heap[j]? from fun j hj hne => (hb2.block j (by have := HN.out.2.2.2.2.2.2; omega)).trans (HN.out.2.2.2.2.2.1 j hj hne))))
    clear hb2
    go_wp2_with fail
    go_ret2
    refine ⟨_, _, rfl, by rw [HO.out]; rfl, ?_, HN2.out.2.1, fun h => (by cases h), HN2.out.2.2⟩
    unfold admL
    rw [if_pos (by rw [HO.out]; rfl), HN.out.2.2.2.1]
    exact HN2.out.1
  | some s =>
    go_enter Try.func104, Try.ntmps104
    go_wp2_with (at_builtin; refine Lib.wpList_append_run _ rfl _ _ 45 45 rfl _ _ rfl rfl _ _ HR.out ?_)
    refine HE.out.mono ?_
    rintro e w2 ⟨rfl, hb2⟩
    have HN2 := Lib.hid (And.intro (ownsP_below HN.out.2.1 hb2) (And.intro (HN.out.2.2.1.trans (hb2.mono HN.out.2.2.2.2.1)) (show ∀ j, j < w.heap.size → ¬ v.ownBlock = some j → w2.heap[j]? = w.heap[j]? from fun j hj hne => (hb2.block j (by have := HN.out.2.2.2.2.2.2; omega)).trans (HN.out.2.2.2.2.2.1 j hj hne))))
    clear hb2
    go_wp2_with fail
    go_ret2
    refine ⟨_, _, rfl, by rw [HO.out]; rfl, ?_, HN2.out.2.1, fun _ => rfl, HN2.out.2.2⟩
    unfold admL
    rw [if_neg (by rw [HO.out]; simp)]
    exact HN2.out.1

/-- What admit hands back. -/
def GivesAdm (w0 : World) (E : Nat → Int) (l : List Pk) (q : Pk) (e : Ending) (w' : World) : Prop :=
  ∃ v' b, e = .returned (.tuple #[v', .bool b]) ∧ (exc14 E (l ++ [q])).isNone = b ∧ OwnL w0 v' (admL E l q) w'
theorem admit14 (w0 : World) (v : Value) (l : List Pk) (q : Pk) (hl : l.length ≤ 60) (hok : ∀ x ∈ l ++ [q], okP x = true ∧ x.t ≤ q.t) (B : Nat) (E : Nat → Int) (w : World) (ho : OwnL w0 v l w)
    (hcl : ClosG 152 #[.pointer (some ⟨B + 1, 0, none⟩), .pointer (some ⟨B, 0, none⟩)] 4194304 E w0) :
    Calls Try.prog 104 #[v, .agg #[.int .i64 q.f, .int .i64 q.t, .int .i64 q.s], closPV B] w (GivesAdm w0 E l q) := by
  refine (admitB w0.heap.size v l q hl hok B E w ho.1 ho.2.size (fun W hb => hcl.above (ho.2.trans hb))).mono ?_
  rintro e w' ⟨v', b, he, hb, h1, h2, _, _⟩
  exact ⟨v', b, he, hb, h1, ho.2.trans h2⟩

set_option maxHeartbeats 400000 in
theorem belongs14 (q : Pk) (fl : Int) (c : Bool) (hc : decide (fl = -1 ∨ q.f = fl) = c) (w : World) :
    Calls Try.prog 103 #[.agg #[.int .i64 q.f, .int .i64 q.t, .int .i64 q.s], .int .i64 fl] w (Says (.bool c) w) := by
  subst hc
  by_cases h : fl = -1
  · subst h
    go_enter Try.func103, Try.ntmps103
    go_wp2_with fail
    go_ret
    exact ⟨by simp, (Below.refl _ _).alloc (Nat.le_refl _) _⟩
  · have hb : (fl == -1) = false := by simp [h]
    by_cases h2 : q.f = fl
    · have hb2 : (q.f == fl) = true := by simp [h2]
      have H2 := Lib.hid h2
      clear h2
      go_enter Try.func103, Try.ntmps103
      go_wp2_with fail
      go_ret
      exact ⟨by rw [decide_eq_true (Or.inr H2.out)]; rfl, (Below.refl _ _).alloc (Nat.le_refl _) _⟩
    · have hb2 : (q.f == fl) = false := by simp [h2]
      go_enter Try.func103, Try.ntmps103
      go_wp2_with fail
      go_ret
      exact ⟨by rw [decide_eq_false (show ¬ (fl = -1 ∨ q.f = fl) by omega)]; rfl, (Below.refl _ _).alloc (Nat.le_refl _) _⟩

set_option maxHeartbeats 400000 in
theorem outside14 (n lo hi : Int) (c : Bool) (hc : (decide (n < lo) || decide (hi < n)) = c) (w : World) :
    Calls Try.prog 114 #[.int .i64 n, .int .i64 lo, .int .i64 hi] w fun e w' => e = .returned (.bool c) ∧ w' = w := by
  by_cases h1 : n < lo
  · have hc' : c = true := by rw [← hc]; simp [h1]
    subst hc'
    clear hc
    go_enter Try.func114, Try.ntmps114
    go_wp2_with fail
    go_ret
    exact ⟨rfl, rfl⟩
  · by_cases h2 : hi < n
    · have hc' : c = true := by rw [← hc]; simp [h2]
      subst hc'
      clear hc
      go_enter Try.func114, Try.ntmps114
      go_wp2_with fail
      go_ret
      exact ⟨rfl, rfl⟩
    · have hc' : c = false := by rw [← hc]; simp [h1, h2]
      subst hc'
      clear hc
      go_enter Try.func114, Try.ntmps114
      go_wp2_with fail
      go_ret
      exact ⟨rfl, rfl⟩

/-- The error of a trace and a flow. -/
def fcode (l : List Pk) (fl : Int) : Int := if vcode l = 0 then (if fl < -1 then 2 else 0) else vcode l
set_option maxHeartbeats 800000 in
theorem fault14 (a : Option Addr) (n cap : Nat) (l : List Pk) (fl c : Int) (hc : fcode l fl = c) (w : World) (h : PkR w a n cap l) :
    Calls Try.prog 108 #[.slice a n cap, .int .i64 fl] w (Says (.int .i64 c) w) := by
  obtain ⟨d, hd⟩ : ∃ d, vcode l = d := ⟨_, rfl⟩
  unfold fcode at hc
  rw [hd] at hc
  have HD := Lib.hid hd
  have H := Lib.hid h
  clear hd h
  by_cases h0 : d = 0
  · subst h0
    rw [if_pos rfl] at hc
    by_cases hf : fl < -1
    · rw [if_pos hf] at hc
      subst hc
      go_enter Try.func108, Try.ntmps108
      go_wp2_with fail
      refine (validate_any a n cap l 0 HD.out _ H.out).mono ?_
      rintro e w1 ⟨rfl, hb1⟩
      go_wp2_with fail
      go_ret
      exact ⟨rfl, hb1⟩
    · rw [if_neg hf] at hc
      subst hc
      go_enter Try.func108, Try.ntmps108
      go_wp2_with fail
      refine (validate_any a n cap l 0 HD.out _ H.out).mono ?_
      rintro e w1 ⟨rfl, hb1⟩
      go_wp2_with fail
      go_ret
      exact ⟨rfl, hb1⟩
  · rw [if_neg h0] at hc
    subst hc
    go_enter Try.func108, Try.ntmps108
    go_wp2_with fail
    refine (validate_any a n cap l d HD.out _ H.out).mono ?_
    rintro e w1 ⟨rfl, hb1⟩
    go_wp2_with fail
    go_ret
    exact ⟨rfl, hb1⟩

/-- The error of a trace, a flow and a curve. -/
def acode (l : List Pk) (fl : Int) (ok : Bool) : Int := if fcode l fl = 0 then (if ok = true then 0 else 1) else fcode l fl
set_option maxHeartbeats 800000 in
theorem faultAll14 (a : Option Addr) (n cap : Nat) (l : List Pk) (fl c : Int) (af : Option Addr) (nf capf : Nat) (zs : List Int) (p inc : Int) (hp : In64 p) (hi : In64 inc) (hc : acode l fl (okC zs p inc) = c) (w : World) (h : PkR w a n cap l) (hz : RowZ w af nf capf zs) :
    Calls Try.prog 98 #[.slice a n cap, .int .i64 fl, curV af nf capf p inc] w (Says (.int .i64 c) w) := by
  obtain ⟨d, hd⟩ : ∃ d, fcode l fl = d := ⟨_, rfl⟩
  obtain ⟨b, hb⟩ : ∃ b, okC zs p inc = b := ⟨_, rfl⟩
  unfold acode at hc
  rw [hd, hb] at hc
  have HD := Lib.hid (And.intro hd hb)
  have H := Lib.hid (And.intro (h.under ((Below.refl _ _).alloc (Nat.le_refl _) (.cells #[.slice af nf capf, .int .i64 p, .int .i64 inc] 26))) (hz.under ((Below.refl _ _).alloc (Nat.le_refl _) (.cells #[.slice af nf capf, .int .i64 p, .int .i64 inc] 26))))
  have HP := Lib.hid (And.intro hp hi)
  obtain ⟨W, hW⟩ : ∃ W, w.alloc (.cells #[.slice af nf capf, .int .i64 p, .int .i64 inc] 26) = W := ⟨_, rfl⟩
  have hbw : Below w.heap.size w W := by rw [← hW]; exact (Below.refl _ _).alloc (Nat.le_refl _) _
  obtain ⟨n0, n1, n2⟩ : W.cell? ⟨w.heap.size, 0, none⟩ = some (.slice af nf capf) ∧ W.cell? ⟨w.heap.size, 1, none⟩ = some (.int .i64 p) ∧ W.cell? ⟨w.heap.size, 2, none⟩ = some (.int .i64 inc) := by rw [← hW]; exact ⟨cell_new13 rfl, cell_new13 rfl, cell_new13 rfl⟩
  have hwl : w.heap.size < W.heap.size := by rw [← hW]; simp
  rw [hW] at H
  have HB := Lib.hid hbw
  clear hd hb h hz hp hi hbw
  have key : ∀ d, fcode l fl = d → Calls Try.prog 108 #[.slice a n cap, .int .i64 fl] W fun e w' => e = .returned (.int .i64 d) ∧ Hid (Below w.heap.size w w') ∧ Hid (RowZ w' af nf capf zs) ∧ w'.cell? ⟨w.heap.size, 0, none⟩ = some (.slice af nf capf) ∧ w'.cell? ⟨w.heap.size, 1, none⟩ = some (.int .i64 p) ∧ w'.cell? ⟨w.heap.size, 2, none⟩ = some (.int .i64 inc) := fun d hd => by
    refine (fault14 a n cap l fl d hd W H.out.1).mono ?_
    rintro e w1 ⟨rfl, hb1⟩
    exact ⟨rfl, Lib.hid (HB.out.trans (hb1.mono HB.out.size)), Lib.hid (H.out.2.under hb1), (hb1.cell hwl).trans n0, (hb1.cell hwl).trans n1, (hb1.cell hwl).trans n2⟩
  have KEY := Lib.hid key
  clear key n0 n1 n2 hwl
  by_cases h0 : d = 0
  · subst h0
    rw [if_pos rfl] at hc
    cases b with
    | true =>
      subst hc
      go_enter Try.func98, Try.ntmps98
      go_wp2_with fail
      refine (KEY.out 0 HD.out.1).mono ?_
      rintro e w1 ⟨rfl, hb1, hz1, m0, m1, m2⟩
      go_wp2_with fail
      refine (valid_any af nf capf zs p inc HP.out.1 HP.out.2 true HD.out.2 _ hz1.out).mono ?_
      rintro e w2 ⟨rfl, hb2⟩
      have HB2 := Lib.hid (hb1.out.trans (hb2.mono hb1.out.size))
      clear hb2
      go_wp2_with fail
      go_ret
      exact ⟨rfl, HB2.out⟩
    | false =>
      subst hc
      go_enter Try.func98, Try.ntmps98
      go_wp2_with fail
      refine (KEY.out 0 HD.out.1).mono ?_
      rintro e w1 ⟨rfl, hb1, hz1, m0, m1, m2⟩
      go_wp2_with fail
      refine (valid_any af nf capf zs p inc HP.out.1 HP.out.2 false HD.out.2 _ hz1.out).mono ?_
      rintro e w2 ⟨rfl, hb2⟩
      have HB2 := Lib.hid (hb1.out.trans (hb2.mono hb1.out.size))
      clear hb2
      go_wp2_with fail
      go_ret
      exact ⟨rfl, HB2.out⟩
  · rw [if_neg h0] at hc
    subst hc
    go_enter Try.func98, Try.ntmps98
    go_wp2_with fail
    refine (KEY.out d HD.out.1).mono ?_
    rintro e w1 ⟨rfl, hb1, hz1, m0, m1, m2⟩
    go_wp2_with fail
    go_ret
    exact ⟨rfl, hb1.out⟩
end Go.Proofs.Ytknimlpdpgpliaa
