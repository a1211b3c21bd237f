/- Violation and Keeps of package conform, of whatever arguments. By the verifier's side. -/
import Derived.Test.YtknimlpdpgpliaaFCfC
import Derived.Test.YtknimlpdpgpliaaFRTrG
namespace Go.Proofs.Ytknimlpdpgpliaa
open Go.RowKit
set_option linter.unusedSimpArgs false
set_option linter.unusedVariables false

theorem vio_step {E : Nat → Int} {own : List Pk} {k : Nat} {q : Pk} (hq : own[k]? = some q) : vio E (own.take k).reverse (own.drop k) = if nextAt q.t (own.drop (k + 1)) = true then vio E (own.take (k + 1)).reverse (own.drop (k + 1)) else match exc14 E (own.take (k + 1)) with
    | some s => some (s, q.t + 1)
    | none => vio E (own.take (k + 1)).reverse (own.drop (k + 1)) := by
  have ht : own.take (k + 1) = own.take k ++ [q] := by rw [List.take_add_one, hq]; rfl
  rw [drop_at hq, vio_cons, ht, exc14_snoc, List.reverse_append]
  rfl
theorem PkR.cut {w : World} {a : Option Addr} {n cap : Nat} {l : List Pk} (h : PkR w a n cap l) {j : Nat} (hj : j ≤ n) : PkR w a j cap (l.take j) := by
  refine ⟨by rw [List.length_take, h.len]; omega, Nat.le_trans hj h.le, Nat.le_trans hj h.sm, h.cm, ?_, fun q hq => h.bd q (List.mem_of_mem_take hq)⟩
  rcases h.place with ⟨h0, h1⟩ | ⟨B, off, ha, hc⟩
  · exact .inl ⟨by omega, h1⟩
  · refine .inr ⟨B, off, ha, fun i q hq => hc i q ?_⟩
    rw [List.getElem?_take] at hq
    split at hq
    · exact hq
    · cases hq
theorem results_tmp4 {fn : Func} {t u v x : Tmp} (h : fn.results = #[.tmp t, .tmp u, .tmp v, .tmp x]) (tmps : Array Value) (P : Program) (w : World) :
    (results fn tmps).run P w = .ok (.tuple #[tmps.getD t undef, tmps.getD u undef, tmps.getD v undef, tmps.getD x undef]) w := by
  simp [results, h]
/-- What Violation finds, with zeros where there is none. -/
def vres (o : Option (Int × Int)) : Int × Int × Bool := match o with
  | some (s, t) => (s, t, true)
  | none => (0, 0, false)
/-- Violation's answer. -/
def vioA (l : List Pk) (fl : Int) (zs : List Int) (p inc : Int) : Int × Int × Bool := if acode l fl (okC zs p inc) = 0 then vres (vio (atC zs p.toNat inc) [] (sel fl l)) else (0, 0, false)
/-- What Violation hands back. -/
def GivesVio (r : Int × Int × Bool) (c : Int) (w : World) (e : Ending) (w' : World) : Prop := e = .returned (.tuple #[.int .i64 r.1, .int .i64 r.2.1, .bool r.2.2, .int .i64 c]) ∧ Below w.heap.size w w'
theorem acode_ok {l : List Pk} {fl : Int} {b : Bool} (h : acode l fl b = 0) : vcode l = 0 ∧ -1 ≤ fl ∧ b = true := by
  unfold acode at h
  by_cases h1 : fcode l fl = 0
  · rw [if_pos h1] at h
    unfold fcode at h1
    by_cases h2 : vcode l = 0
    · rw [if_pos h2] at h1
      refine ⟨h2, ?_, ?_⟩
      · by_cases h3 : fl < -1
        · rw [if_pos h3] at h1; cases h1
        · omega
      · cases b with
        | true => rfl
        | false => simp at h
    · rw [if_neg h2] at h1; exact absurd h1 h2
  · rw [if_neg h1] at h; exact absurd h h1
theorem acode_yes {l : List Pk} {fl : Int} (h : vcode l = 0) (hf : -1 ≤ fl) : acode l fl true = 0 := by
  have h1 : fcode l fl = 0 := by unfold fcode; rw [if_pos h, if_neg (by omega)]
  unfold acode
  rw [if_pos h1, if_pos rfl]

set_option maxRecDepth 100000 in
set_option maxHeartbeats 3200000 in
theorem violation14 (a : Option Addr) (n cap : Nat) (l : List Pk) (fl : Int) (af : Option Addr) (nf capf : Nat) (zs : List Int) (p inc : Int) (hp : In64 p) (hi : In64 inc) (r : Int × Int × Bool) (hr : vioA l fl zs p inc = r) (c : Int) (hc : acode l fl (okC zs p inc) = c) (w : World) (h : PkR w a n cap l) (hz : RowZ w af nf capf zs) :
    Calls Try.prog 58 #[.slice a n cap, .int .i64 fl, curV af nf capf p inc] w (GivesVio r c w) := by
  obtain ⟨W, hW⟩ : ∃ W, w.alloc (.cells #[.slice af nf capf, .int .i64 p, .int .i64 inc] 26) = W := ⟨_, rfl⟩
  have hbw : Below w.heap.size w W := by rw [← hW]; exact (Below.refl _ _).alloc (Nat.le_refl _) _
  obtain ⟨n0, n1, n2⟩ : W.cell? ⟨w.heap.size, 0, none⟩ = some (.slice af nf capf) ∧ W.cell? ⟨w.heap.size, 1, none⟩ = some (.int .i64 p) ∧ W.cell? ⟨w.heap.size, 2, none⟩ = some (.int .i64 inc) := by rw [← hW]; exact ⟨cell_new13 rfl, cell_new13 rfl, cell_new13 rfl⟩
  have hwl : w.heap.size < W.heap.size := by rw [← hW]; simp
  have key : Calls Try.prog 98 #[.slice a n cap, .int .i64 fl, curV af nf capf p inc] W fun e w' => e = .returned (.int .i64 c) ∧ Hid (Below w.heap.size w w') ∧ Hid (PkR w' a n cap l ∧ RowZ w' af nf capf zs) ∧ w'.cell? ⟨w.heap.size, 0, none⟩ = some (.slice af nf capf) ∧ w'.cell? ⟨w.heap.size, 1, none⟩ = some (.int .i64 p) ∧ w'.cell? ⟨w.heap.size, 2, none⟩ = some (.int .i64 inc) := by
    refine (faultAll14 a n cap l fl c af nf capf zs p inc hp hi hc W (h.under hbw) (hz.under hbw)).mono ?_
    rintro e w1 ⟨rfl, hb1⟩
    exact ⟨rfl, Lib.hid (hbw.trans (hb1.mono hbw.size)), Lib.hid ⟨(h.under hbw).under hb1, (hz.under hbw).under hb1⟩, (hb1.cell hwl).trans n0, (hb1.cell hwl).trans n1, (hb1.cell hwl).trans n2⟩
  have KEY := Lib.hid key
  have HC := Lib.hid hc
  have HR := Lib.hid hr
  have HPI := Lib.hid (And.intro hp hi)
  clear key hwl hbw hp hi hr h hz hc
  by_cases h0 : c = 0
  case neg =>
    have hr0 : r = (0, 0, false) := by rw [← HR.out]; unfold vioA; rw [if_neg (by rw [HC.out]; exact h0)]
    subst hr0
    go_enter Try.func58, Try.ntmps58
    go_wp2_with fail
    refine KEY.out.mono ?_
    rintro e w1 ⟨rfl, hb1, hz1, m0, m1, m2⟩
    go_wp2_with fail
    (try simp only [Exit.inBlock, Exit.then]); refine bodyPost_ret (results_tmp4 rfl _ _ _) rfl ?_
    exact ⟨rfl, hb1.out⟩
  subst h0
  obtain ⟨hv, hfl, hok⟩ := acode_ok HC.out
  obtain ⟨pn, rfl, good⟩ := okC_pos hok
  have hrv : vres (vio (atC zs pn inc) [] (sel fl l)) = r := by have := HR.out; unfold vioA at this; rw [if_pos HC.out] at this; exact this
  have HG := Lib.hid good
  have HRV := Lib.hid hrv
  have HVO := Lib.hid (vcode_ok hv)
  clear hok good hrv hv hfl HR HC
  go_enter Try.func58, Try.ntmps58
  go_wp2_with fail
  refine KEY.out.mono ?_
  rintro e w1 ⟨rfl, hb1, hz1, m0, m1, m2⟩
  go_wp2_with fail
  refine (pvalues_any af nf capf zs pn inc HG.out _ hz1.out.2).mono ?_
  rintro e w2 ⟨B, rfl, hb2, hBw, hBl, hcl⟩
  have HB2 := Lib.hid (And.intro (hb1.out.trans (hb2.mono hb1.out.size)) hcl)
  have HP2 := Lib.hid (hz1.out.1.under hb2)
  clear hb2 hcl m0 m1 m2
  go_wp2_with fail
  refine (select13 a n cap l fl _ HP2.out).mono ?_
  rintro e w3 ⟨aO, m, capO, rfl, hb3, hpO, hxO⟩
  have HB3 := Lib.hid (And.intro (HB2.out.1.trans (hb3.mono HB2.out.1.size)) (And.intro (HB2.out.2.above hb3) hpO))
  have hml := hpO.len
  have hm60 : m ≤ 60 := by rw [← hml]; exact Nat.le_trans (sel_le fl l) HVO.out.1
  have hmc := hpO.le
  have hcm := hpO.cm
  have HOK := Lib.hid (show (∀ x ∈ sel fl l, okP x = true) ∧ Asc (sel fl l) from ⟨fun x hx => HVO.out.2.1 x (List.mem_filter.1 hx).1, HVO.out.2.2.filter _⟩)
  obtain ⟨own, hown⟩ : ∃ own, sel fl l = own := ⟨_, rfl⟩
  rw [hown] at HB3 HOK HRV
  have HL := Lib.hid (show own.length = m by rw [← hown]; exact hml)
  clear hb3 hpO hxO hml hown
  go_wp2_with fail
  go_loopw [31] (fun s31 wx => ∃ k : Nat, s31 = .int .i64 k ∧ k ≤ m ∧ Hid (vres (vio (atC zs pn inc) (own.take k).reverse (own.drop k)) = r) ∧ Hid (Below w3.heap.size w3 wx)) (fun s31 _ => m - (intOf s31).toNat)
  case atStart => exact ⟨0, by go_num, Nat.zero_le _, HRV, Below.refl _ _⟩
  case round =>
    obtain ⟨k, rfl, hk, hV, HW⟩ := hrel
    obtain ⟨wk, rfl⟩ : ∃ u : World, u = wr := ⟨_, rfl⟩
    by_cases hlt : k < m
    · have hlI : (k : Int) < (m : Int) := by omega
      obtain ⟨Bk, off, q, ha, hcs, hq, hbd⟩ := (HB3.out.2.2.under HW.out).at hlt
      obtain ⟨c0, c1, c2⟩ := hcs k q hq
      obtain ⟨j, hj⟩ : ∃ j : Nat, k + 1 = j := ⟨_, rfl⟩
      have eJ : (k : Int) + 1 = (j : Int) := by omega
      have hwj : IntKind.i64.wrap (j : Int) = (j : Int) := IntWalk.i64_in _ ⟨by omega, by omega⟩
      have hjm : j ≤ m := by omega
      have hjc : j ≤ capO := by omega
      have hjcI : (j : Int) ≤ (capO : Int) := by omega
      have hj0 : (0 : Int) ≤ (j : Int) := by omega
      have hjn : ¬ (j : Int) < 0 := by omega
      have hqo := (okP_iff q).1 (HOK.out.1 q (List.mem_of_getElem? hq))
      obtain ⟨hq1, hq2⟩ : 0 ≤ q.t ∧ q.t ≤ 2000 := by omega
      have hwt : IntKind.i64.wrap (q.t + 1) = q.t + 1 := IntWalk.i64_in _ ⟨by omega, by omega⟩
      have hST := vio_step (E := atC zs pn inc) hq
      have hV' := hV.out
      rw [hST, hj] at hV'
      have htk : own.take j = own.take k ++ [q] := by rw [← hj, List.take_add_one, hq]; rfl
      have hmem : ∀ x ∈ own.take j, okP x = true ∧ x.t ≤ q.t := fun x hx => by
        refine ⟨HOK.out.1 x (List.mem_of_mem_take hx), ?_⟩
        rw [htk] at hx
        rcases List.mem_append.1 hx with e | e
        · have hs : Asc (own.take k ++ [q]) := by rw [← htk]; exact HOK.out.2.sublist (List.take_sublist _ _)
          exact (asc_append.1 hs).2.2 x e q (by simp)
        · rw [List.mem_singleton.1 e]; exact Int.le_refl _
      have HT := Lib.hid (And.intro htk hmem)
      have HQ := Lib.hid (And.intro hq (And.intro hcs hbd))
      have HJ := Lib.hid hj
      have HV2 := Lib.hid hV'
      clear hV' hST hqo hcs hq hbd hmem htk hV
      subst ha
      go_upto_region 9 with fail
      obtain ⟨u, hu⟩ : ∃ u : World, wk.alloc (.cells #[.int .i64 q.f, .int .i64 q.t, .int .i64 q.s] 76) = u := ⟨_, rfl⟩
      have hb : Below wk.heap.size wk u := by rw [← hu]; exact (Below.refl _ _).alloc (Nat.le_refl _) _
      obtain ⟨n0, n1, n2⟩ : u.cell? ⟨wk.heap.size, 0, none⟩ = some (.int .i64 q.f) ∧ u.cell? ⟨wk.heap.size, 1, none⟩ = some (.int .i64 q.t) ∧ u.cell? ⟨wk.heap.size, 2, none⟩ = some (.int .i64 q.s) := by rw [← hu]; exact ⟨cell_new13 rfl, cell_new13 rfl, cell_new13 rfl⟩
      have HU := Lib.hid (HW.out.trans (hb.mono HW.out.size))
      have hwu : wk.heap.size < u.heap.size := by rw [← hu]; simp
      rw [hu]
      clear hu hb c0 c1 c2
      have tail : nextAt q.t (own.drop j) = false → ∀ (nq : Nat), True := fun _ _ => trivial
      clear tail
      by_cases hj2 : j < m
      · have hj2I : (j : Int) < (m : Int) := by omega
        obtain ⟨q', hq'⟩ : ∃ q', own[j]? = some q' := ⟨_, List.getElem?_eq_getElem (by rw [HL.out]; exact hj2)⟩
        obtain ⟨B2, off2, q2, ha2, hcs2, hq2', hbd2⟩ := (HB3.out.2.2.under HU.out).at hj2
        cases ha2
        obtain ⟨d0, d1, d2⟩ := hcs2 j q2 hq2'
        have hnx : nextAt q.t (own.drop j) = decide (q2.t = q.t) := by rw [drop_at hq2']; rfl
        clear hq' q' hcs2 hbd2 d0 d2
        by_cases hte : q2.t = q.t
        · have hb2 : (q2.t == q.t) = true := by simp [hte]
          have HN := Lib.hid (show vres (vio (atC zs pn inc) (own.take j).reverse (own.drop j)) = r from by have := HV2.out; rwa [hnx, if_pos (by simp [hte])] at this)
          clear hte hnx hq2'
          go_quiet (fail)
          go_wp2_with fail
          go_roundw
          case rel => exact ⟨j, by go_num, by omega, HN, HU.out.drewN _⟩
          case measure => first | (simp [intOf]; done) | (simp [intOf]; omega)
        · have hb2 : (q2.t == q.t) = false := by simp [hte]
          have HN := Lib.hid (show vres (match exc14 (atC zs pn inc) (own.take j) with
            | some s => some (s, q.t + 1)
            | none => vio (atC zs pn inc) (own.take j).reverse (own.drop j)) = r from by have := HV2.out; rwa [hnx, if_neg (by simp [hte])] at this)
          clear hte hnx hq2'
          go_quiet (fail)
          obtain ⟨u2, hu2⟩ : ∃ u2 : World, u.drewN nq = u2 := ⟨_, rfl⟩
          have hbu : Below w3.heap.size w3 u2 := by rw [← hu2]; exact HU.out.drewN _
          have e1 : u2.cell? ⟨wk.heap.size, 1, none⟩ = some (.int .i64 q.t) := by rw [← hu2]; exact n1
          have hwu2 : wk.heap.size < u2.heap.size := by rw [← hu2]; exact hwu
          rw [hu2]
          have HBU := Lib.hid hbu
          obtain ⟨o, ho⟩ : ∃ o, exc14 (atC zs pn inc) (own.take j) = o := ⟨_, rfl⟩
          have hex := excess14 (some ⟨Bk, off, none⟩) j capO (own.take j) (own.take k) q HT.out.1 (by omega) HT.out.2 B (atC zs pn inc) u2 ((HB3.out.2.2.under hbu).cut hjm) (HB3.out.2.1.above hbu)
          rw [ho] at hex
          have HN2 := HN.out
          rw [ho] at HN2
          have HE := Lib.hid hex
          have HN3 := Lib.hid HN2
          clear hbu hu2 hex HN2 ho n0 n1 n2
          cases o with
          | none =>
            go_wp2_with fail
            refine HE.out.mono ?_
            rintro e w5 ⟨rfl, hb5⟩
            have HB5 := Lib.hid (HBU.out.trans (hb5.mono HBU.out.size))
            clear hb5
            go_wp2_with fail
            go_roundw
            case rel => exact ⟨j, by go_num, by omega, HN3, HB5⟩
            case measure => first | (simp [intOf]; done) | (simp [intOf]; omega)
          | some s =>
            go_wp2_with fail
            refine HE.out.mono ?_
            rintro e w5 ⟨rfl, hb5⟩
            have e5 : w5.cell? ⟨wk.heap.size, 1, none⟩ = some (.int .i64 q.t) := (hb5.cell hwu2).trans e1
            have HB5 := Lib.hid (HBU.out.trans (hb5.mono HBU.out.size))
            clear hb5 e1
            go_wp2_with fail
            go_quiet (fail)
            go_wp2_with fail
            (try simp only [Exit.inBlock, Exit.then]); refine bodyPost_ret (results_tmp4 rfl _ _ _) rfl ?_
            rw [← show (s, q.t + 1, true) = r from HN3.out]
            exact ⟨rfl, (HB3.out.1.trans (HB5.out.mono HB3.out.1.size)).drewN _⟩
      · have hj2I : ¬ (j : Int) < (m : Int) := by omega
        have HN := Lib.hid (show vres (match exc14 (atC zs pn inc) (own.take j) with
            | some s => some (s, q.t + 1)
            | none => vio (atC zs pn inc) (own.take j).reverse (own.drop j)) = r from by have := HV2.out; rw [List.drop_of_length_le (by rw [HL.out]; omega), show nextAt q.t [] = false from rfl, if_neg (by decide)] at this; rw [List.drop_of_length_le (by rw [HL.out]; omega)]; exact this)
        go_quiet (fail)
        obtain ⟨u2, hu2⟩ : ∃ u2 : World, u.drewN nq = u2 := ⟨_, rfl⟩
        have hbu : Below w3.heap.size w3 u2 := by rw [← hu2]; exact HU.out.drewN _
        have e1 : u2.cell? ⟨wk.heap.size, 1, none⟩ = some (.int .i64 q.t) := by rw [← hu2]; exact n1
        have hwu2 : wk.heap.size < u2.heap.size := by rw [← hu2]; exact hwu
        rw [hu2]
        have HBU := Lib.hid hbu
        obtain ⟨o, ho⟩ : ∃ o, exc14 (atC zs pn inc) (own.take j) = o := ⟨_, rfl⟩
        have hex := excess14 (some ⟨Bk, off, none⟩) j capO (own.take j) (own.take k) q HT.out.1 (by omega) HT.out.2 B (atC zs pn inc) u2 ((HB3.out.2.2.under hbu).cut hjm) (HB3.out.2.1.above hbu)
        rw [ho] at hex
        have HN2 := HN.out
        rw [ho] at HN2
        have HE := Lib.hid hex
        have HN3 := Lib.hid HN2
        clear hbu hu2 hex HN2 ho n0 n1 n2
        cases o with
        | none =>
          go_wp2_with fail
          refine HE.out.mono ?_
          rintro e w5 ⟨rfl, hb5⟩
          have HB5 := Lib.hid (HBU.out.trans (hb5.mono HBU.out.size))
          clear hb5
          go_wp2_with fail
          go_roundw
          case rel => exact ⟨j, by go_num, by omega, HN3, HB5⟩
          case measure => first | (simp [intOf]; done) | (simp [intOf]; omega)
        | some s =>
          go_wp2_with fail
          refine HE.out.mono ?_
          rintro e w5 ⟨rfl, hb5⟩
          have e5 : w5.cell? ⟨wk.heap.size, 1, none⟩ = some (.int .i64 q.t) := (hb5.cell hwu2).trans e1
          have HB5 := Lib.hid (HBU.out.trans (hb5.mono HBU.out.size))
          clear hb5 e1
          go_wp2_with fail
          go_quiet (fail)
          go_wp2_with fail
          (try simp only [Exit.inBlock, Exit.then]); refine bodyPost_ret (results_tmp4 rfl _ _ _) rfl ?_
          rw [← show (s, q.t + 1, true) = r from HN3.out]
          exact ⟨rfl, (HB3.out.1.trans (HB5.out.mono HB3.out.1.size)).drewN _⟩
    · obtain rfl : k = m := by omega
      have hlI : ¬ (k : Int) < (k : Int) := by omega
      go_wp2_with fail
      (try simp only [Exit.inBlock, Exit.then]); refine bodyPost_ret (results_tmp4 rfl _ _ _) rfl ?_
      have hz := hV.out
      rw [List.drop_of_length_le (by rw [HL.out]; exact Nat.le_refl _)] at hz
      rw [← show (0, 0, false) = r from hz]
      exact ⟨rfl, HB3.out.1.trans (HW.out.mono HB3.out.1.size)⟩

/-- Whether Keeps says yes. -/
def keepsA (l : List Pk) (fl : Int) (zs : List Int) (p inc : Int) : Bool := !(vioA l fl zs p inc).2.2 && decide (acode l fl (okC zs p inc) = 0)
set_option maxHeartbeats 800000 in
theorem keeps14 (a : Option Addr) (n cap : Nat) (l : List Pk) (fl : Int) (af : Option Addr) (nf capf : Nat) (zs : List Int) (p inc : Int) (hp : In64 p) (hi : In64 inc) (b : Bool) (hb : keepsA l fl zs p inc = b) (w : World) (h : PkR w a n cap l) (hz : RowZ w af nf capf zs) :
    Calls Try.prog 60 #[.slice a n cap, .int .i64 fl, curV af nf capf p inc] w (Says (.bool b) w) := by
  obtain ⟨c, hc⟩ : ∃ c, acode l fl (okC zs p inc) = c := ⟨_, rfl⟩
  obtain ⟨r, hr⟩ : ∃ r, vioA l fl zs p inc = r := ⟨_, rfl⟩
  unfold keepsA at hb
  rw [hc, hr] at hb
  obtain ⟨W, hW⟩ : ∃ W, w.alloc (.cells #[.slice af nf capf, .int .i64 p, .int .i64 inc] 26) = W := ⟨_, rfl⟩
  have hbw : Below w.heap.size w W := by rw [← hW]; exact (Below.refl _ _).alloc (Nat.le_refl _) _
  obtain ⟨n0, n1, n2⟩ : W.cell? ⟨w.heap.size, 0, none⟩ = some (.slice af nf capf) ∧ W.cell? ⟨w.heap.size, 1, none⟩ = some (.int .i64 p) ∧ W.cell? ⟨w.heap.size, 2, none⟩ = some (.int .i64 inc) := by rw [← hW]; exact ⟨cell_new13 rfl, cell_new13 rfl, cell_new13 rfl⟩
  have key := violation14 a n cap l fl af nf capf zs p inc hp hi r hr c hc W (h.under hbw) (hz.under hbw)
  obtain ⟨s, t, f⟩ := r
  have KEY := Lib.hid key
  have HB := Lib.hid hbw
  clear key hp hi h hz hc hr hbw
  have hb : (!f && decide (c = 0)) = b := hb
  cases f with
  | true =>
    obtain rfl : b = false := by rw [← hb]; rfl
    clear hb
    go_enter Try.func60, Try.ntmps60
    go_wp2_with fail
    refine KEY.out.mono ?_
    rintro e w1 ⟨rfl, hb1⟩
    have HB1 := Lib.hid (HB.out.trans (hb1.mono HB.out.size))
    clear hb1
    go_wp2_with fail
    go_ret
    exact ⟨rfl, HB1.out⟩
  | false =>
    by_cases h0 : c = 0
    · subst h0
      obtain rfl : b = true := by rw [← hb]; rfl
      clear hb
      go_enter Try.func60, Try.ntmps60
      go_wp2_with fail
      refine KEY.out.mono ?_
      rintro e w1 ⟨rfl, hb1⟩
      have HB1 := Lib.hid (HB.out.trans (hb1.mono HB.out.size))
      clear hb1
      go_wp2_with fail
      go_ret
      exact ⟨rfl, HB1.out⟩
    · obtain rfl : b = false := by rw [← hb]; simp [h0]
      have h0b : (c == 0) = false := by simp [h0]
      clear hb
      go_enter Try.func60, Try.ntmps60
      go_wp2_with fail
      refine KEY.out.mono ?_
      rintro e w1 ⟨rfl, hb1⟩
      have HB1 := Lib.hid (HB.out.trans (hb1.mono HB.out.size))
      clear hb1
      go_wp2_with fail
      go_ret
      exact ⟨rfl, HB1.out⟩
/-- Of a valid trace and a valid curve Keeps says what the mathematics says. -/
theorem keepsA_ok {l : List Pk} {fl : Int} {zs : List Int} {p : Nat} {inc : Int} (hv : vcode l = 0) (hf : -1 ≤ fl) (hg : okC zs p inc = true) : keepsA l fl zs p inc = kpB (atC zs p inc) fl l := by
  unfold keepsA vioA
  rw [hg, acode_yes hv hf, if_pos rfl]
  have h := kpB_vio (E := atC zs p inc) (fl := fl) (l := l) (fun q hq => by have := (okP_iff q).1 ((vcode_ok hv).2.1 q hq); omega)
  rw [← h]
  show (!(vres (vio (atC zs p inc) [] (sel fl l))).2.2 && true) = _
  cases vio (atC zs p inc) [] (sel fl l) <;> rfl
end Go.Proofs.Ytknimlpdpgpliaa
