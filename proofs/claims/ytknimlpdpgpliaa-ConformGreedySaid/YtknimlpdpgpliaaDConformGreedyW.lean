/- The walk of ConformGreedy. By the verifier's side. -/
import Derived.Test.YtknimlpdpgpliaaDCfZ
import Derived.Test.YtknimlpdpgpliaaDCfK
namespace Go.Proofs.Ytknimlpdpgpliaa
open Go.RowKit
set_option linter.unusedSimpArgs false
set_option linter.unusedVariables false

theorem pkR_apartN {u v : World} {a : Option Addr} {n cap b : Nat} {l : List Pk} (h : PkR u a n cap l) (ha : Apart b u v) (hb : ∀ q, q < u.heap.size → ∀ x, a = some x → x.block = q → ¬ n = 0 → ¬ q = b) : PkR v a n cap l :=
  ⟨h.len, h.le, h.sm, h.cm, by
    rcases h.place with h0 | ⟨B, off, he, hc⟩
    · exact .inl h0
    · cases l with
      | nil => exact .inl ⟨by have := h.len; simpa using this.symm, fun _ _ => trivial⟩
      | cons q r =>
        have hlt := hc.lt (i := 0) rfl
        exact .inr ⟨B, off, he, hc.apart ha (hb B hlt _ he rfl (by have := h.len; simp only [List.length_cons] at this; omega))⟩, h.bd⟩
theorem rowZ_ltG {w : World} {a : Option Addr} {n cap : Nat} {zs : List Int} (h : RowZ w a n cap zs) (hn : 1 ≤ n) : ∀ x, a = some x → x.block < w.heap.size := fun x hx => by
  obtain ⟨y, hy, hc⟩ := h.cell 0 (by omega)
  rw [hx] at hy; cases hy
  have := lt_of_cell hc
  have e : (x.add 0).block = x.block := by unfold Addr.add; split <;> rfl
  rwa [e] at this

set_option maxRecDepth 100000 in
set_option maxHeartbeats 6400000 in
theorem conformGreedy_walk (W : World) (a : Option Addr) (n cap : Nat) (hrow : RowAt W a n cap) :
    Calls Try.prog 12 #[.slice a n cap] W fun e w' => e = .returned (.bool true) ∧ Below W.heap.size W w' := by
  have HR := Lib.hid hrow
  clear hrow
  go_enter Try.func12, Try.ntmps12
  go_wp2_with fail
  refine (new_any a n cap _ HR.out).mono ?_
  rintro e ww1 ⟨rfl, hb1, hz1', ra, rn, rc, hs1⟩
  have HB1 := Lib.hid hb1
  have HS1 := Lib.hid hs1
  have hbl : W.heap.size < ww1.heap.size := by omega
  clear hb1 hz1' hs1
  go_wp2_with fail
  refine (zero_any3 6 (by omega) (by omega) _ ra rn rc _ HS1.out).mono ?_
  rintro e ww3 ⟨af, nf, capf, zs, p, inc, rfl, hs3, he3, hr3, hg3, hf3, h03, hsm3, hx3⟩
  have HH3 := Lib.hid ((Hld13.start HS1.out).call hs3 he3)
  have Q3 := Lib.hid hr3
  have HG := Lib.hid hg3
  have HFAR := Lib.hid (show ∀ x, af = some x → ¬ x.block = W.heap.size from fun x hx => by have := hx3 x hx; omega)
  clear hs3 he3 hr3 hg3 hf3 h03 hx3 hsm3
  go_upto_region 3 with fail
  obtain ⟨V, hV⟩ : ∃ V, ww3.alloc (.cells #[.slice af nf capf, .int .i64 p, .int .i64 inc] 26) = V := ⟨_, rfl⟩
  obtain ⟨E, hE⟩ : ∃ E, atC zs p inc = E := ⟨_, rfl⟩
  have HE := Lib.hid hE
  have hbV : Below ww3.heap.size ww3 V := by rw [← hV]; exact (Below.refl _ _).alloc (Nat.le_refl _) _
  have HI := Lib.hid (show In64 ((p : Nat) : Int) ∧ In64 inc ∧ okC zs p inc = true from by
    have h1 := HG.out.p1
    have h2 := HG.out.p2
    have h3 := HG.out.i0
    have h4 := HG.out.i1
    exact ⟨⟨by omega, by omega⟩, ⟨by omega, by omega⟩, (okC_iff zs p inc).2 HG.out⟩)
  have HMO := Lib.hid (show ∀ i j, i ≤ j → E i ≤ E j from fun i j hij => by
    rw [← hE]
    have := HG.out.up (j - i) i
    rwa [show i + (j - i) = j by omega] at this)
  have HHV := Lib.hid (hldZ_below HH3.out hbV)
  have HS0 := Lib.hid (show CfB V ww3.heap.size af nf capf zs p inc V from by
    rw [← hV]
    exact ⟨cell_new13 rfl, cell_new13 rfl, cell_new13 rfl, Q3.out.under ((Below.refl _ _).alloc (Nat.le_refl _) _), Below.refl _ _⟩)
  have hFW : W.heap.size < ww3.heap.size := HH3.out.lt
  have hFV : ww3.heap.size < V.heap.size := by rw [← hV]; simp
  rw [hV]
  clear hV hE hbV HH3 Q3
  obtain ⟨F, hF⟩ : ∃ F, ww3.heap.size = F := ⟨_, rfl⟩
  rw [hF] at HS0 hFW hFV ⊢
  clear hF
  go_wp2_with fail
  refine (n_any 6 (by omega) (by omega) _ ra rn rc _ (HHV.out.at HS1.out)).mono ?_
  rintro e ww4 ⟨c0, ⟨hc0, hc6⟩, rfl, hs4, he4⟩
  have ha4 := he4.apart
  have hs4' := hs4
  obtain ⟨c, hc⟩ : ∃ c : Int, 1 + c0 = c := ⟨_, rfl⟩
  have hc1 : 1 ≤ c := by omega
  have hc2 : c ≤ 6 := by omega
  have hwc : IntKind.i64.wrap c = c := IntWalk.i64_in _ ⟨by omega, by omega⟩
  have HH4 := Lib.hid (HHV.out.call hs4 ha4)
  have HS4 := Lib.hid (show CfB ww4 F af nf capf zs p inc ww4 from by
    have hne : ∀ q, q ≠ W.heap.size → q < V.heap.size → ww4.heap[q]? = V.heap[q]? := fun q h1 h2 => ha4.block q h2 h1
    have hcell : ∀ o, ww4.cell? ⟨F, o, none⟩ = V.cell? ⟨F, o, none⟩ := fun o => World.cell?_of_block (w := V) (a := ⟨F, o, none⟩) (hne F (by omega) hFV)
    exact ⟨(hcell 0).trans HS0.out.f0, (hcell 1).trans HS0.out.f1, (hcell 2).trans HS0.out.f2, HS0.out.row.apart ha4 (fun x hx => HFAR.out x hx), Below.refl _ _⟩)
  have HCC := Lib.hid (show 1 ≤ c ∧ c ≤ 1500 from ⟨hc1, by omega⟩)
  clear hs4 he4 ha4 hs4' hc0 hc6 HS0 HHV
  go_upto_region 4 with fail
  try rw [hc]
  obtain ⟨x0, x1, x2⟩ := And.intro HS4.out.f0 (And.intro HS4.out.f1 HS4.out.f2)
  have hgr := greedy14 0 c 25 (by decide) HCC.out (by decide) af nf capf zs p inc HI.out.1 HI.out.2.1 HG.out ww4 HS4.out.row
  rw [HE.out] at hgr
  have HGR := Lib.hid hgr
  have HGA := Lib.hid (grA E HCC.out (n := 25 + 1) (by decide))
  clear hgr
  obtain ⟨G, hGG⟩ : ∃ G, (gUp E 0 c (25 + 1)).reverse = G := ⟨_, rfl⟩
  rw [hGG] at HGR HGA
  have HGE := Lib.hid hGG
  clear hGG
  go_wp2_with fail
  refine HGR.out.mono ?_
  rintro e ww5 ⟨a5, n5, c5, rfl, hb5, hr5, hx5⟩
  have HS5 := Lib.hid (HS4.out.call hb5)
  have HR5 := Lib.hid hr5
  have HH5 := Lib.hid (hldZ_below HH4.out hb5)
  have HX5 := Lib.hid (show ∀ x, a5 = some x → ¬ x.block = W.heap.size from fun x hx => by have := hx5 x hx; have := HH4.out.lt; omega)
  have hn5 := hr5.len
  have hn60 : n5 ≤ 60 := by rw [← hn5]; exact (vcode_ok HGA.out.val).1
  have HL5 := Lib.hid hn5
  clear hb5 hr5 hx5 hn5 x0 x1 x2 HGR HS4 HH4
  obtain ⟨x0, x1, x2⟩ := And.intro HS5.out.f0 (And.intro HS5.out.f1 HS5.out.f2)
  have HK := Lib.hid (keeps14 a5 n5 c5 G 0 af nf capf zs p inc HI.out.1 HI.out.2.1 true (by rw [keepsA_ok HGA.out.val (by decide) HI.out.2.2, HE.out]; exact HGA.out.keeps) ww5 HR5.out HS5.out.row)
  by_cases h60 : n5 = 60
  · subst h60
    go_wp2_with fail
    refine HK.out.mono ?_
    rintro e ww6 ⟨rfl, hb6⟩
    have HH6 := Lib.hid (hldZ_below HH5.out hb6)
    clear hb6
    go_wp2_with fail
    refine (awake14 _).mono ?_
    rintro e ww7 ⟨rfl, hb7⟩
    have HH7 := Lib.hid (hldZ_below HH6.out hb7)
    clear hb7
    go_wp2_with fail
    go_ret
    exact ⟨rfl, HB1.out.trans (HH7.out.ap.below (Nat.le_refl _) HB1.out.size)⟩
  · have h60I : ¬ (n5 : Int) = 60 := by omega
    have h60B : ((n5 : Int) == 60) = false := by simp; omega
    have HLT := Lib.hid (show (gUp E 0 c (25 + 1)).length < 60 from by
      have := HL5.out
      rw [← HGE.out, List.length_reverse] at this; omega)
    clear h60
    go_wp2_with fail
    refine HK.out.mono ?_
    rintro e ww6 ⟨rfl, hb6⟩
    have HS6 := Lib.hid (HS5.out.call hb6)
    have HR6 := Lib.hid (HR5.out.under hb6)
    have HH6 := Lib.hid (hldZ_below HH5.out hb6)
    clear hb6 x0 x1 x2 HK HS5 HR5 HH5
    go_wp2_with fail
    refine (traffic14o 20 (by omega) 1 1 (by decide) (by decide) _ ra rn rc _ (HH6.out.at HS1.out)).mono ?_
    rintro e ww7 ⟨lp, a7, n7, c7, rfl, hdr, hs7, he7, hr7, hx7, hpo7⟩
    have HD := Lib.hid hdr
    have HH7 := Lib.hid (HH6.out.call hs7 he7)
    have HR7 := Lib.hid (pkR_apartZ HR6.out he7 HX5.out)
    have HS7 := Lib.hid (show CfB ww7 F af nf capf zs p inc ww7 from by
      have hne : F < ww6.heap.size := lt_of_cell HS6.out.f0
      have hcell : ∀ o, ww7.cell? ⟨F, o, none⟩ = ww6.cell? ⟨F, o, none⟩ := fun o => World.cell?_of_block (w := ww6) (a := ⟨F, o, none⟩) (he7.block F hne (by show F ≠ W.heap.size; omega))
      exact ⟨(hcell 0).trans HS6.out.f0, (hcell 1).trans HS6.out.f1, (hcell 2).trans HS6.out.f2, HS6.out.row.apart he7 (fun x hx => HFAR.out x hx), Below.refl _ _⟩)
    have HROW := Lib.hid HS6.out.row
    have HFL := Lib.hid (show F < ww6.heap.size ∧ W.heap.size < ww6.heap.size from ⟨lt_of_cell HS6.out.f0, HH6.out.lt⟩)
    have HX5L := Lib.hid (show ∀ x, a5 = some x → x.block < ww6.heap.size ∨ n5 = 0 from fun x hx => by
      rcases HR6.out.place with h0 | ⟨B, off, he, hc⟩
      · exact .inr h0.1
      · by_cases h5 : n5 = 0
        · exact .inr h5
        · rw [hx] at he; cases he
          exact .inl (hc.lt (List.getElem?_eq_getElem (show 0 < G.length by rw [HR6.out.len]; omega))))
    have HW16 := Lib.hid (show ww1.heap.size ≤ ww6.heap.size from HH6.out.ap.size)
    have HC7 := Lib.hid (And.intro hr7.len (And.intro hr7.le (And.intro hr7.cm hr7.bd)))
    have HX7 := Lib.hid (And.intro hx7 (show ww6.heap.size ≤ ww7.heap.size from he7.size))
    have hn20 : n7 ≤ 20 := by rw [← hr7.len]; exact hdr.len
    have HPO := Lib.hid (show n7 = 0 ∨ ∃ g, a7 = some ⟨g, 0, none⟩ ∧ ww6.heap.size ≤ g ∧ PkO ww7 g 0 (szK c lp 0) from by rw [szK_zero]; exact hpo7)
    clear hdr hs7 he7 hr7 hx7 hpo7 HH6 HR6 HS6
    go_wp2_with fail
    have hnf : 1 ≤ nf := by
      have h1 := HG.out.p1
      have h2 := HG.out.p3
      have h3 := HS7.out.row.len
      omega
    have hafl := rowZ_ltG HROW.out hnf
    obtain ⟨g, hgg, hg7⟩ : ∃ g, ww6.heap.size ≤ g ∧ (n7 = 0 ∨ a7 = some ⟨g, 0, none⟩ ∧ PkO ww7 g 0 (szK c lp 0)) := by
      rcases HPO.out with h0 | ⟨g, h1, h2, h3⟩
      · exact ⟨_, Nat.le_refl _, .inl h0⟩
      · exact ⟨g, h2, .inr ⟨h1, h3⟩⟩
    have HG7 := Lib.hid hg7
    have HAF := Lib.hid hafl
    clear hg7 HPO hafl hnf HROW
    go_loopw [43] (fun s43 wx => ∃ i : Nat, s43 = .int .i64 i ∧ i ≤ n7 ∧ Hid (Apart g ww7 wx) ∧ Hid (n7 = 0 ∨ a7 = some ⟨g, 0, none⟩ ∧ PkO wx g 0 (szK c lp i))) (fun s43 _ => n7 - (intOf s43).toNat)
    case atStart => exact ⟨0, by go_num, Nat.zero_le _, Apart.refl _ _, HG7⟩
    case round =>
      obtain ⟨i, rfl, hi, HA, HP⟩ := hrel
      obtain ⟨wk, rfl⟩ : ∃ u : World, u = wr := ⟨_, rfl⟩
      by_cases hlt : i < n7
      · have hlI : (i : Int) < (n7 : Int) := by omega
        obtain ⟨rfl, hpo⟩ : a7 = some ⟨g, 0, none⟩ ∧ PkO wk g 0 (szK c lp i) := by
          rcases HP.out with h0 | h
          · omega
          · exact h
        obtain ⟨q, hq⟩ : ∃ q, lp[i]? = some q := ⟨_, List.getElem?_eq_getElem (by rw [HC7.out.1]; exact hlt)⟩
        have hqi := szK_at (c := c) hq
        obtain ⟨d0, d1, d2⟩ := hpo.cells i q hqi
        have fg := hpo.frozen
        simp only [Nat.zero_add] at d0 d1 d2
        have HN := Lib.hid (show PkO (wk.setCell ⟨g, i * 3 + 2, none⟩ (.int .i64 c)) g 0 (szK c lp (i + 1)) from by
          rw [← szK_step hq]
          obtain ⟨cs, ty, hb, hcs⟩ := hpo
          refine ⟨_, ty, block_set (i * 3 + 2) (.int .i64 c) hb, ?_⟩
          intro j r hj
          by_cases e : j = i
          · subst e
            rw [List.getElem?_set_self (by have := (List.getElem?_eq_some_iff.1 hqi).1; omega)] at hj
            cases hj
            obtain ⟨k1, k2, k3⟩ := hcs j q hqi
            rw [Nat.zero_add] at k1 k2 k3 ⊢
            refine ⟨?_, ?_, ?_⟩
            · rw [Array.getElem?_setIfInBounds_ne (by omega)]; exact k1
            · rw [Array.getElem?_setIfInBounds_ne (by omega)]; exact k2
            · rw [Array.getElem?_setIfInBounds_self_of_lt (Array.getElem?_eq_some_iff.1 k3).1]
          · rw [List.getElem?_set_ne (fun h => e h.symm)] at hj
            obtain ⟨k1, k2, k3⟩ := hcs j r hj
            refine ⟨?_, ?_, ?_⟩ <;> rw [Array.getElem?_setIfInBounds_ne (by omega)] <;> assumption)
        have HA2 := Lib.hid (show Apart g ww7 (wk.setCell ⟨g, i * 3 + 2, none⟩ (.int .i64 c)) from HA.out.trans ((Else.refl _ _).setCell (i * 3 + 2) (.int .i64 c)).apart)
        clear hpo hq hqi
        go_wp2_with fail
        go_roundw
        case rel => exact ⟨i + 1, by go_num, by omega, HA2, Lib.hid (.inr ⟨(by first | rfl | trivial), HN.out⟩)⟩
        case measure => first | (simp [intOf]; done) | (simp [intOf]; omega)
      · obtain rfl : i = n7 := by omega
        have hlI : ¬ (i : Int) < (i : Int) := by omega
        obtain ⟨lq, hlq⟩ : ∃ lq, lp.map (szP c) = lq := ⟨_, rfl⟩
        have HVQ := Lib.hid (show vcode lq = 0 from by rw [← hlq]; exact sized_val (N := 20) HCC.out (HD.out.vcode (by omega) (by omega) (by omega)))
        have HFQ := Lib.hid (show ∀ x ∈ lq, x.f = 0 ∧ x.s = c from fun x hx => by
          rw [← hlq] at hx
          obtain ⟨y, hy, rfl⟩ := List.mem_map.1 hx
          have := HD.out.ok y hy
          exact ⟨by show y.f = 0; omega, rfl⟩)
        have hg7 : g ≠ F ∧ g ≠ W.heap.size := by have := HH7.out.lt; exact ⟨by have := HFL.out; omega, by have := HFL.out; omega⟩
        have HSK := Lib.hid (show CfB wk F af nf capf zs p inc wk from by
          have hne : F < ww7.heap.size := lt_of_cell HS7.out.f0
          have hcell : ∀ o, wk.cell? ⟨F, o, none⟩ = ww7.cell? ⟨F, o, none⟩ := fun o => World.cell?_of_block (w := ww7) (a := ⟨F, o, none⟩) (HA.out.block F hne (by show F ≠ g; omega))
          exact ⟨(hcell 0).trans HS7.out.f0, (hcell 1).trans HS7.out.f1, (hcell 2).trans HS7.out.f2, HS7.out.row.apart HA.out (fun x hx => by have := HAF.out x hx; omega), Below.refl _ _⟩)
        have HRK := Lib.hid (pkR_apartN HR7.out HA.out (fun q hq x hx he hx0 => by
          rcases HX5L.out x hx with h | h
          · rw [he] at h; omega
          · exact absurd h hx0))
        have HPK := Lib.hid (show PkR wk a7 i c7 lq from ⟨by rw [← hlq, List.length_map]; exact HC7.out.1, HC7.out.2.1, by omega, HC7.out.2.2.1, by
          rcases HP.out with h0 | ⟨h1, h2⟩
          · exact .inl ⟨h0, fun _ _ => trivial⟩
          · refine .inr ⟨g, 0, h1, ?_⟩
            have := h2.cells
            rwa [show szK c lp i = lq from by rw [← hlq, ← szK_all, HC7.out.1]] at this, fun x hx => okP_64 ((vcode_ok HVQ.out).2.1 x hx)⟩)
        have HHK := Lib.hid (show Hld13 ww1 W.heap.size ra rn rc wk from by
          obtain ⟨k0, hk0, hsrc⟩ := HH7.out.src
          refine ⟨⟨k0, hk0, (HA.out.block W.heap.size HH7.out.lt (by omega)).trans hsrc⟩, ?_⟩
          have h7 := HH7.out.ap
          refine ⟨HA.out.os.trans h7.os, HA.out.tape.trans h7.tape, HA.out.output.trans h7.output, Nat.le_trans h7.size HA.out.size, fun k hk hne => ?_⟩
          have h1 := HW16.out
          exact (HA.out.block k (by have := h7.size; omega) (by omega)).trans (h7.block k hk hne))
        clear hlq hg7 HA HP HR7 HS7 HH7 HC7
        obtain ⟨x0, x1, x2⟩ := And.intro HSK.out.f0 (And.intro HSK.out.f1 HSK.out.f2)
        have hpl := police14 a7 i c7 lq 0 HVQ.out (by decide) af nf capf zs p inc HI.out.1 HI.out.2.1 HG.out wk HPK.out HSK.out.row
        rw [HE.out] at hpl
        have HPL := Lib.hid hpl
        clear hpl
        go_wp2_with fail
        refine HPL.out.mono ?_
        rintro e ww8 ⟨a8, n8, c8, a9, n9, c9, rfl, hb8, hr8, _, _, _⟩
        have HB8 := Lib.hid (And.intro hr8 (HRK.out.under hb8))
        have HH8 := Lib.hid (hldZ_below HHK.out hb8)
        clear hb8 hr8 x0 x1 x2 HPL
        have HLE := Lib.hid (show ∀ t : Nat, t ≤ 26 → bytW t (sel 0 (polL E 0 [] lq)) ≤ bytW t (sel 0 G) from fun t ht => by
          rw [← HGE.out]
          exact greedy_bytes HMO.out HCC.out (by decide) HLT.out (vcode_sub HVQ.out (polL_mem lq [])) (fun x hx => HFQ.out x ((polL_mem lq []).subset hx)) (pol_fit (by decide) lq) t ht)
        go_wp2_with fail
        go_loopw [13] (fun s13 wx => ∃ t : Nat, s13 = .int .i64 t ∧ t ≤ 27 ∧ wx = ww8) (fun s13 _ => 27 - (intOf s13).toNat)
        case atStart => exact ⟨0, by go_num, by omega, rfl⟩
        case round =>
          obtain ⟨t, rfl, ht, rfl⟩ := hrel
          by_cases htl : t ≤ 26
          · have htI : (t : Int) ≤ 26 := by omega
            have hcmp := HLE.out t htl
            obtain ⟨v1, hv1⟩ : ∃ v1, bytW t (sel 0 (polL E 0 [] lq)) = v1 := ⟨_, rfl⟩
            obtain ⟨v2, hv2⟩ : ∃ v2, bytW t (sel 0 G) = v2 := ⟨_, rfl⟩
            rw [hv1, hv2] at hcmp
            have hcm : ¬ v2 < v1 := by omega
            have hcd : decide (v2 < v1) = false := decide_eq_false hcm
            have HV := Lib.hid (And.intro hv1 hv2)
            clear hv1 hv2 hcmp
            go_wp2_with fail
            refine (rbytes13 a8 n8 c8 (polL E 0 [] lq) 0 t v1 HV.out.1 _ HB8.out.1).mono ?_
            rintro e w9 ⟨rfl, rfl⟩
            go_wp2_with fail
            refine (rbytes13 a5 n5 c5 G 0 t v2 HV.out.2 _ HB8.out.2).mono ?_
            rintro e w9 ⟨rfl, rfl⟩
            go_wp2_with fail
            go_roundw
            case rel => exact ⟨t + 1, by go_num, by omega, (by first | rfl | trivial)⟩
            case measure => first | (simp [intOf]; done) | (simp [intOf]; omega)
          · have htI : ¬ (t : Int) ≤ 26 := by omega
            go_wp2_with (go_at_call 55; refine (awake14 _).mono ?_; rintro e ww10 ⟨rfl, hb10⟩; have HH10 := Lib.hid (hldZ_below HH8.out hb10); clear hb10)
            go_ret
            exact ⟨rfl, HB1.out.trans (HH10.out.ap.below (Nat.le_refl _) HB1.out.size)⟩
end Go.Proofs.Ytknimlpdpgpliaa
