/- Greedy of package conform, of whatever arguments. By the verifier's side. -/
import Derived.Test.YtknimlpdpgpliaaFCfV
import Derived.Test.YtknimlpdpgpliaaFCfGCfT
namespace Go.Proofs.Ytknimlpdpgpliaa
open Go.RowKit
set_option linter.unusedSimpArgs false
set_option linter.unusedVariables false

/-- A list of its own and an error are handed back. -/
def GivesPkF (c : Int) (l : List Pk) (w : World) (e : Ending) (w' : World) : Prop :=
  ∃ a n cap, e = .returned (.tuple #[.slice a n cap, .int .i64 c]) ∧ Below w.heap.size w w' ∧ PkR w' a n cap l ∧ ∀ x, a = some x → w.heap.size ≤ x.block
theorem GivesPkF.nil {c : Int} {w w' : World} (hb : Below w.heap.size w w') : GivesPkF c [] w (.returned (.tuple #[.slice none 0 0, .int .i64 c])) w' := ⟨none, 0, 0, rfl, hb, pkR_nil _, fun x hx => (by cases hx)⟩
/-- While a tick is filled. -/
structure GrK (E : Nat → Int) (fl c : Int) (t : Nat) (b : Bool) (acc tgt : List Pk) : Prop where
  len : acc.length ≤ 60
  go : b = true → gIn E fl t c (60 - acc.length) acc = tgt
  stop : b = false → acc = tgt
  sent : Sent fl c (t + 1) acc
theorem GrK.start (E : Nat → Int) (fl c : Int) (t : Nat) : GrK E fl c t true (gUp E fl c t) (gUp E fl c (t + 1)) := by
  have h := gUp_sent E fl c t
  exact ⟨gUp_len E fl c t, fun _ => rfl, fun h => (by cases h), ⟨fun q hq => by have := h.mem q hq; exact ⟨this.1, this.2.1, this.2.2.1, by omega⟩, h.desc⟩⟩
theorem GrK.fin {E : Nat → Int} {fl c : Int} {t : Nat} {acc tgt : List Pk} (h : GrK E fl c t true acc tgt) (h6 : ¬ acc.length < 60) : acc = tgt := by
  have h1 := h.go rfl
  have h2 := h.len
  rw [show 60 - acc.length = 0 by omega] at h1
  exact h1
theorem GrK.step {E : Nat → Int} {fl c : Int} {t : Nat} {acc tgt : List Pk} (h : GrK E fl c t true acc tgt) (h6 : acc.length < 60) (b : Bool) (hb : (exc14 E (acc.reverse ++ [⟨fl, t, c⟩])).isNone = b) :
    ∃ acc', acc'.reverse = admL E acc.reverse ⟨fl, t, c⟩ ∧ GrK E fl c t b acc' tgt ∧ (b = true → acc'.length = acc.length + 1) := by
  have h1 := h.go rfl
  obtain ⟨k, hk⟩ : ∃ k, 60 - acc.length = k + 1 := ⟨59 - acc.length, by omega⟩
  rw [hk] at h1
  unfold gIn at h1
  have he : exc14 E (acc.reverse ++ [⟨fl, t, c⟩]) = exB E ((t : Int) + 1) 0 ((⟨fl, t, c⟩ : Pk) :: acc) := by rw [exc14_snoc, List.reverse_reverse]
  unfold admL
  cases b with
  | true =>
    rw [if_pos (by rw [← he]; exact hb)] at h1
    rw [if_pos hb]
    refine ⟨⟨fl, t, c⟩ :: acc, by simp, ⟨by simp only [List.length_cons]; omega, fun _ => ?_, fun h => (by cases h), ⟨fun q hq => ?_, List.pairwise_cons.2 ⟨fun y hy => ?_, h.sent.desc⟩⟩⟩, fun _ => by simp⟩
    · rw [List.length_cons, show 60 - (acc.length + 1) = k by omega]; exact h1
    · rcases List.mem_cons.1 hq with e | e
      · subst e; exact ⟨rfl, rfl, by show (0 : Int) ≤ t; omega, by show (t : Int) < ((t + 1 : Nat) : Int); omega⟩
      · exact h.sent.mem q e
    · have := h.sent.mem y hy
      show y.t ≤ (t : Int); omega
  | false =>
    rw [if_neg (by rw [← he, hb]; decide)] at h1
    rw [if_neg (by rw [hb]; decide)]
    exact ⟨acc, rfl, ⟨h.len, fun h => (by cases h), fun _ => h1, h.sent⟩, fun h => (by cases h)⟩
theorem GrK.okp {E : Nat → Int} {fl c : Int} {t : Nat} {b : Bool} {acc tgt : List Pk} (h : GrK E fl c t b acc tgt) (hf : 0 ≤ fl ∧ fl ≤ 59) (hc : 1 ≤ c ∧ c ≤ 1500) (ht : t ≤ 2000) : ∀ x ∈ acc.reverse ++ [(⟨fl, t, c⟩ : Pk)], okP x = true ∧ x.t ≤ (⟨fl, t, c⟩ : Pk).t := fun x hx => by
  rcases List.mem_append.1 hx with e | e
  · have := h.sent.mem x (List.mem_reverse.1 e)
    exact ⟨(okP_iff x).2 (by omega), by show x.t ≤ (t : Int); omega⟩
  · rw [List.mem_singleton.1 e]
    exact ⟨(okP_iff _).2 ⟨hf.1, hf.2, by show (0 : Int) ≤ t; omega, by show (t : Int) ≤ 2000; omega, hc.1, hc.2⟩, Int.le_refl _⟩

set_option maxRecDepth 100000 in
set_option maxHeartbeats 3200000 in
/-- Greedy within its ranges. -/
theorem greedy14 (fl c : Int) (T : Nat) (hf : 0 ≤ fl ∧ fl ≤ 59) (hc : 1 ≤ c ∧ c ≤ 1500) (hT : T ≤ 2000) (af : Option Addr) (nf capf : Nat) (zs : List Int) (p : Nat) (inc : Int) (hp : In64 p) (hi : In64 inc) (g : Good zs p inc) (w : World) (hz : RowZ w af nf capf zs) :
    Calls Try.prog 68 #[.int .i64 fl, curV af nf capf p inc, .int .i64 c, .int .i64 T] w (GivesPkF 0 (gUp (atC zs p inc) fl c (T + 1)).reverse w) := by
  obtain ⟨W, hW⟩ : ∃ W, w.alloc (.cells #[.slice af nf capf, .int .i64 p, .int .i64 inc] 26) = W := ⟨_, rfl⟩
  have hbw : Below w.heap.size w W := by rw [← hW]; exact (Below.refl _ _).alloc (Nat.le_refl _) _
  obtain ⟨n0, n1, n2⟩ : W.cell? ⟨w.heap.size, 0, none⟩ = some (.slice af nf capf) ∧ W.cell? ⟨w.heap.size, 1, none⟩ = some (.int .i64 p) ∧ W.cell? ⟨w.heap.size, 2, none⟩ = some (.int .i64 inc) := by rw [← hW]; exact ⟨cell_new13 rfl, cell_new13 rfl, cell_new13 rfl⟩
  have hwl : w.heap.size < W.heap.size := by rw [← hW]; simp
  have key : Calls Try.prog 79 #[curV af nf capf p inc] W fun e w' => e = .returned (.bool true) ∧ Hid (Below w.heap.size w w') ∧ Hid (RowZ w' af nf capf zs) ∧ w'.cell? ⟨w.heap.size, 0, none⟩ = some (.slice af nf capf) ∧ w'.cell? ⟨w.heap.size, 1, none⟩ = some (.int .i64 p) ∧ w'.cell? ⟨w.heap.size, 2, none⟩ = some (.int .i64 inc) := by
    refine (valid_any af nf capf zs p inc hp hi true ((okC_iff zs p inc).2 g) W (hz.under hbw)).mono ?_
    rintro e w1 ⟨rfl, hb1⟩
    exact ⟨rfl, Lib.hid (hbw.trans (hb1.mono hbw.size)), Lib.hid ((hz.under hbw).under hb1), (hb1.cell hwl).trans n0, (hb1.cell hwl).trans n1, (hb1.cell hwl).trans n2⟩
  have KEY := Lib.hid key
  have HG := Lib.hid g
  have HFC := Lib.hid (And.intro hf hc)
  have o1 : (decide (fl < 0) || decide (59 < fl)) = false := by simp; omega
  have o2 : (decide (c < 1) || decide (1500 < c)) = false := by simp; omega
  have o3 : (decide ((T : Int) < 0) || decide (2000 < (T : Int))) = false := by simp; omega
  have HO := Lib.hid (And.intro o1 (And.intro o2 o3))
  obtain ⟨T1, hT1⟩ : ∃ T1 : Nat, T + 1 = T1 := ⟨_, rfl⟩
  have eT : (T : Int) + 1 = (T1 : Int) := by omega
  have hT2 : T1 ≤ 2001 := by omega
  rw [hT1]
  clear key hwl hbw hp hi g hz hf hc o1 o2 o3 hT1
  go_enter Try.func68, Try.ntmps68
  go_wp2_with fail
  refine KEY.out.mono ?_
  rintro e w1 ⟨rfl, hb1, hz1, m0, m1, m2⟩
  go_wp2_with (first
    | (go_at_call 114; with_reducible refine (outside14 fl 0 59 _ HO.out.1 _).mono ?_; rintro e w1 ⟨rfl, rfl⟩)
    | (go_at_call 114; with_reducible refine (outside14 c 1 1500 _ HO.out.2.1 _).mono ?_; rintro e w1 ⟨rfl, rfl⟩)
    | (go_at_call 114; with_reducible refine (outside14 T 0 2000 _ HO.out.2.2 _).mono ?_; rintro e w1 ⟨rfl, rfl⟩))
  refine (pvalues_any af nf capf zs p inc HG.out _ hz1.out).mono ?_
  rintro e w2 ⟨B, rfl, hb2, hBw, hBl, hcl⟩
  have HB2 := Lib.hid (And.intro (hb1.out.trans (hb2.mono hb1.out.size)) hcl)
  clear hb2 hcl m0 m1 m2 hb1 hz1
  go_wp2_with fail
  go_loopw [31, 11] (fun s31 s11 wx => ∃ t : Nat, s31 = .int .i64 t ∧ t ≤ T1 ∧ Hid (OwnL w2 s11 (gUp (atC zs p inc) fl c t).reverse wx)) (fun s31 _ _ => T1 - (intOf s31).toNat)
  case atStart => exact ⟨0, by go_num, Nat.zero_le _, OwnL.nil w2⟩
  case round =>
    obtain ⟨t, rfl, ht, HO1⟩ := hrel
    obtain ⟨wk, rfl⟩ : ∃ u : World, u = wr := ⟨_, rfl⟩
    obtain ⟨s11, rfl⟩ : ∃ u : Value, u = u11 := ⟨_, rfl⟩
    by_cases hlt : t < T1
    · have hlI : (t : Int) < (T1 : Int) := by omega
      have HK := Lib.hid (GrK.start (atC zs p inc) fl c t)
      have ht2 : t ≤ 2000 := by omega
      go_wp2_with fail
      go_loopg [11, 13] (61 - (gUp (atC zs p inc) fl c t).length) (fun g s11 s13 wx => ∃ (b : Bool) (acc : List Pk), s13 = .bool b ∧ Hid (OwnL w2 s11 acc.reverse wx) ∧ Hid (GrK (atC zs p inc) fl c t b acc (gUp (atC zs p inc) fl c (t + 1))) ∧ (b = true → acc.length + g = 61))
      case atStart => exact ⟨true, _, rfl, HO1, HK, fun _ => by have := gUp_len (atC zs p inc) fl c t; omega⟩
      case round =>
        obtain ⟨b, acc, rfl, HO2, HK2, hg⟩ := hrel
        obtain ⟨wi, rfl⟩ : ∃ u : World, u = wr := ⟨_, rfl⟩
        obtain ⟨aS, cS, hS, hpr⟩ := HO2.out.row (by have := HK2.out.len; rw [List.length_reverse]; omega) (fun x hx => okP_64 (HK2.out.okp HFC.out.1 HFC.out.2 ht2 x (List.mem_append_left _ hx)).1)
        subst hS
        obtain ⟨n1, hn1⟩ : ∃ n1, acc.reverse.length = n1 := ⟨_, rfl⟩
        have hn1' : acc.length = n1 := by rw [← hn1, List.length_reverse]
        rw [hn1] at HO2 hpr ⊢
        have hle60 : n1 ≤ 60 := by rw [← hn1']; exact HK2.out.len
        have HLN := Lib.hid (And.intro hn1' hg)
        clear hpr hn1 hn1' hg
        cases b with
        | false =>
          have HF := Lib.hid (HK2.out.stop rfl)
          go_wp2_with fail
          go_roundw
          case rel => exact ⟨t + 1, by go_num, by omega, by rw [← HF.out]; exact HO2⟩
          case measure => first | (simp [intOf]; done) | (simp [intOf]; omega)
        | true =>
          by_cases h6 : n1 < 60
          · have h6I : (n1 : Int) < 60 := by omega
            cases gk with
            | zero => exfalso; have := HLN.out.2 (by first | trivial | rfl); have := HLN.out.1; omega
            | succ gk =>
              have hA := admit14 w2 (.slice aS n1 cS) acc.reverse ⟨fl, t, c⟩ (by rw [List.length_reverse, HLN.out.1]; omega) (HK2.out.okp HFC.out.1 HFC.out.2 ht2) B (atC zs p inc) wi HO2.out HB2.out.2
              have HA := Lib.hid hA
              clear hA
              go_wp2_with fail
              refine HA.out.mono ?_
              rintro e w4 ⟨v', b', rfl, hb', ho'⟩
              obtain ⟨acc', ha1, ha2, ha3⟩ := HK2.out.step (by rw [HLN.out.1]; exact h6) b' hb'
              rw [← ha1] at ho'
              have HN := Lib.hid (And.intro ho' (And.intro ha2 (show b' = true → acc'.length + gk = 61 from fun h => by have := ha3 h; have := HLN.out.2 (by first | trivial | rfl); omega)))
              clear hb' ho' ha1 ha2 ha3
              go_wp2_with fail
              go_roundg gk
              case rel => exact ⟨b', acc', rfl, Lib.hid HN.out.1, Lib.hid HN.out.2.1, HN.out.2.2⟩
              case measure => omega
          · have h6I : ¬ (n1 : Int) < 60 := by omega
            have HF := Lib.hid (HK2.out.fin (by rw [HLN.out.1]; exact h6))
            go_wp2_with fail
            go_roundw
            case rel => exact ⟨t + 1, by go_num, by omega, by rw [← HF.out]; exact HO2⟩
            case measure => first | (simp [intOf]; done) | (simp [intOf]; omega)
    · obtain rfl : t = T1 := by omega
      have hlI : ¬ (t : Int) < (t : Int) := by omega
      have hS := gUp_sent (atC zs p inc) fl c t
      obtain ⟨aS, cS, hSv, hpr⟩ := HO1.out.row (by have := gUp_len (atC zs p inc) fl c t; rw [List.length_reverse]; omega) (fun x hx => by
        have := hS.mem x (List.mem_reverse.1 hx)
        have hfc := HFC.out
        exact okP_64 ((okP_iff x).2 (by omega)))
      obtain ⟨n1, hn1⟩ : ∃ n1, (gUp (atC zs p inc) fl c t).reverse.length = n1 := ⟨_, rfl⟩
      rw [hn1] at hSv hpr
      have hfr : ∀ x, aS = some x → w.heap.size ≤ x.block := fun x hx => by
        have := (HO1.out.1.lt x.block (by rw [hSv, hx]; rfl)).1
        have := HB2.out.1.size
        omega
      have HR := Lib.hid (And.intro hpr hfr)
      subst hSv
      clear hpr hfr hS hn1
      go_wp2_with fail
      go_ret2
      exact ⟨_, _, _, rfl, HB2.out.1.trans (HO1.out.2.mono HB2.out.1.size), HR.out.1, HR.out.2⟩
end Go.Proofs.Ytknimlpdpgpliaa
