/- Contracts of package pointwise: checked, settled, fromZero. By the verifier's side. -/
import Derived.Test.YthljhddnfflpjaaCPwC
namespace Go.Proofs.Ythljhddnfflpjaa
open Go.RowKit
set_option linter.unusedSimpArgs false

theorem ClosG.congr {fid : FuncId} {caps : Array Value} {T : Nat} {f F : Nat → Int} {w : World} (h : ClosG fid caps T f w) (he : ∀ t, t < T → f t = F t) : ClosG fid caps T F w :=
  fun ti t v w' h1 h2 h3 h4 => h ti t v w' h1 h2 ((he t h2).trans h3) h4

theorem form_post {w w1 w2 : World} {b : Nat} {F : Nat → Int} (hB : Below w.heap.size w w1) (hb1 : w.heap.size ≤ b) (hb2 : b < w1.heap.size) (h2 : Below w1.heap.size w1 w2) {a : Option Addr} {n cap : Nat} {zs : List Int} {p : Nat} {inc : Int} (hr : RowZ w2 a n cap zs)
    (hx : ∀ x, a = some x → w1.heap.size ≤ x.block) (hf : Form zs p inc F) :
    GivesForm F w (.returned (.tuple #[curV a n cap p inc, .int .i64 0])) (((w2.setCell ⟨b, 0, none⟩ (.slice a n cap)).setCell ⟨b, 1, none⟩ (.int .i64 p)).setCell ⟨b, 2, none⟩ (.int .i64 inc)) := by
  have hne : ∀ x : Addr, a = some x → 1 ≤ n → x.block ≠ b := fun x h _ => by have := hx x h; omega
  exact ⟨below_set3 (hB.trans (h2.mono hB.size)) hb1 _ _ _, .inl ⟨a, n, cap, zs, p, inc, rfl, ((hr.store hne _ _).store hne _ _).store hne _ _, hf, fun x h => by have := hx x h; have := hB.size; omega⟩⟩

theorem none_post {w w1 w2 : World} {b : Nat} {F : Nat → Int} (hB : Below w.heap.size w w1) (hb1 : w.heap.size ≤ b) (h2 : Below w1.heap.size w1 w2) (hno : ¬ CanBe F) :
    GivesForm F w (.returned (.tuple #[curV none 0 0 0 0, .int .i64 3])) (((w2.setCell ⟨b, 0, none⟩ (.slice none 0 0)).setCell ⟨b, 1, none⟩ (.int .i64 0)).setCell ⟨b, 2, none⟩ (.int .i64 0)) :=
  ⟨below_set3 (hB.trans (h2.mono hB.size)) hb1 _ _ _, .inr ⟨rfl, hno⟩⟩

set_option maxHeartbeats 1600000 in
theorem settled_s (fid : FuncId) (caps : Array Value) (F : Nat → Int) (si : Int) (s : Nat) (hsi : si = s) (hs2 : s ≤ 1000) (L : Nat) (G : Int) (hL1 : 1 ≤ L) (hL2 : L ≤ 120) (hm : ∀ t, t < s + 2 * L → Mid (F t)) (hG : Mid G) (hs : SettlingS F s L G) (w : World)
    (eg : ∀ (args : Array Value) (w : World), (callFunc fid args).run Try.prog w = .ok (.enter fid args) w) (hcl : ClosG fid caps (s + 2 * L) F w) :
    Calls Try.prog 103 #[.int .i64 si, .int .i64 L, .int .i64 G, .func (.func fid) #[] caps] w (GivesForm F w) := by
  subst hsi
  have HM := Lib.hid hm
  have HG := Lib.hid hG
  have HS := Lib.hid hs
  have HCL := Lib.hid hcl
  have hB0 : Below w.heap.size w (w.alloc (.cells #[.slice none 0 0, .int .i64 0, .int .i64 0] 24)) := (Below.refl _ _).alloc (Nat.le_refl _) _
  have HB0 := Lib.hid hB0
  have HC0 := Lib.hid (Cur3.new w (.slice none 0 0) (.int .i64 0) (.int .i64 0) 24)
  clear hm hG hs hcl hB0
  go_enter Try.func103, Try.ntmps103
  go_wp2_with fail
  generalize w.alloc (.cells #[.slice none 0 0, .int .i64 0, .int .i64 0] 24) = W at HB0 HC0 ⊢
  have HCW := Lib.hid (show ∀ (ti : Int) (t : Nat) (v : Int) (w' : World), ti = t → t < s + 2 * L → F t = v → (∃ m, w' = W.drewN m) → Calls Try.prog fid (#[.int .i64 ti] ++ caps) w' (Drew (.int .i64 v) w') from
    fun ti t v w' h1 h2 h3 h4 => HCL.out ti t v w' h1 h2 h3 (below_dr HB0.out h4))
  go_loopw [10] (fun s8 wx => ∃ t : Nat, s8 = .int .i64 t ∧ s ≤ t ∧ t ≤ s + L ∧ Hid (∀ u, s ≤ u → u < t → F (u + L) = plI (F u) G) ∧ Hid (∃ m, wx = W.drewN m)) (fun s8 _ => s + L - (intOf s8).toNat)
  case atStart => exact ⟨s, by go_num, Nat.le_refl _, by omega, fun u h1 h2 => by omega, 0, rfl⟩
  case round =>
    obtain ⟨t, rfl, ht1, ht2, hok, hdr⟩ := hrel
    obtain ⟨w1, rfl⟩ : ∃ u : World, u = wr := ⟨_, rfl⟩
    by_cases hlt : t < s + L
    · have hl2 : (t : Int) < s + (L : Int) := by omega
      obtain ⟨v1, hv1⟩ : ∃ v, F (t + L) = v := ⟨_, rfl⟩
      obtain ⟨v2, hv2⟩ : ∃ v, F t = v := ⟨_, rfl⟩
      have HV := Lib.hid (And.intro hv1 hv2)
      have HM2 := Lib.hid (show Mid v2 by rw [← hv2]; exact HM.out t (by omega))
      clear hv1 hv2
      by_cases hd : v1 = plI v2 G
      · have t1 : (v1 != plI v2 G) = false := by simpa using hd
        have HD := Lib.hid hd
        clear hd
        go_wp2_with fail
        refine (HCW.out _ (t + L) v1 _ (by omega) (by omega) HV.out.1 hdr.out).mono ?_
        rintro e w2 ⟨rfl, hd1⟩
        have D2 := Lib.hid (dr_trans hdr.out hd1)
        clear hd1
        go_wp2_with fail
        refine (HCW.out _ t v2 _ rfl (by omega) HV.out.2 D2.out).mono ?_
        rintro e w3 ⟨rfl, hd1⟩
        have D3 := Lib.hid (dr_trans D2.out hd1)
        clear hd1
        go_wp2_with fail
        refine (pplus_any v2 G HM2.out HG.out _).mono ?_
        rintro e w4 ⟨rfl, rfl⟩
        go_wp2_with fail
        go_roundw
        case rel =>
          refine ⟨t + 1, by go_num, by omega, by omega, fun u h1 h2 => ?_, D3⟩
          by_cases he : u = t
          · subst he; rw [HV.out.1, HV.out.2]; exact HD.out
          · exact hok.out u h1 (by omega)
        case measure => simp [intOf]; omega
      · have t1 : (v1 != plI v2 G) = true := by simpa using hd
        have HNO := Lib.hid (HS.out.2 fun hc => hd (by have := hc t ht1 hlt; rwa [HV.out.1, HV.out.2] at this))
        clear hd
        go_wp2_with fail
        refine (HCW.out _ (t + L) v1 _ (by omega) (by omega) HV.out.1 hdr.out).mono ?_
        rintro e w2 ⟨rfl, hd1⟩
        have D2 := Lib.hid (dr_trans hdr.out hd1)
        clear hd1
        go_wp2_with fail
        refine (HCW.out _ t v2 _ rfl (by omega) HV.out.2 D2.out).mono ?_
        rintro e w3 ⟨rfl, hd1⟩
        have D3 := Lib.hid (dr_trans D2.out hd1)
        clear hd1
        go_wp2_with fail
        refine (pplus_any v2 G HM2.out HG.out _).mono ?_
        rintro e w4 ⟨rfl, rfl⟩
        have HP := Lib.hid (none_post (b := w.heap.size) HB0.out (Nat.le_refl _) (below_dr (Below.refl _ _) D3.out) HNO.out)
        obtain ⟨c0, c1, c2, f0, f1, f2⟩ := HC0.out.dr D3.out
        go_wp2_with fail
        exact bodyPost_ret (v := .tuple #[curV none 0 0 0 0, .int .i64 3]) (by simp [results, Try.results103, go_sem, c0, c1, c2]) rfl HP.out
    · obtain rfl : t = s + L := by omega
      have hl2 : ¬ (((s + L : Nat) : Int) < s + (L : Int)) := by omega
      obtain ⟨c, hc⟩ := HS.out.1 (fun u h1 h2 => hok.out u h1 h2)
      have HPer := Lib.hid hc
      clear hc
      go_wp2_with fail
      refine (pcurve_any fid caps F s L c hL1 hL2 (by omega) (fun u hu => by have := (HM.out u (by omega)).bd; omega) HPer.out _ eg ((HCL.out.above (below_dr HB0.out hdr.out)))).mono ?_
      rintro e w2 ⟨hb, ⟨a, n, cap, zs, p, inc, rfl, hr, hf, hx⟩ | ⟨rfl, hno⟩⟩
      · have HP := Lib.hid (form_post (b := w.heap.size) (below_dr HB0.out hdr.out) (Nat.le_refl _) (HC0.out.dr hdr.out).lt hb hr hx hf)
        obtain ⟨c0, c1, c2, f0, f1, f2⟩ := (HC0.out.dr hdr.out).below hb
        clear hb hr hf hx
        go_wp2_with fail
        exact bodyPost_ret (v := .tuple #[curV a n cap p inc, .int .i64 0]) (by simp [results, Try.results103, go_sem, c0, c1, c2]) rfl HP.out
      · have HP := Lib.hid (none_post (b := w.heap.size) (below_dr HB0.out hdr.out) (Nat.le_refl _) hb hno)
        obtain ⟨c0, c1, c2, f0, f1, f2⟩ := (HC0.out.dr hdr.out).below hb
        clear hb hno
        go_wp2_with fail
        exact bodyPost_ret (v := .tuple #[curV none 0 0 0 0, .int .i64 3]) (by simp [results, Try.results103, go_sem, c0, c1, c2]) rfl HP.out

theorem settled_any (fid : FuncId) (caps : Array Value) (F : Nat → Int) (L : Nat) (G : Int) (hL1 : 1 ≤ L) (hL2 : L ≤ 120) (hm : ∀ t, t < 1000 → Mid (F t)) (hG : Mid G) (hs : Settling F L G) (w : World)
    (eg : ∀ (args : Array Value) (w : World), (callFunc fid args).run Try.prog w = .ok (.enter fid args) w) (hcl : ClosG fid caps 1000 F w) :
    Calls Try.prog 103 #[.int .i64 400, .int .i64 L, .int .i64 G, .func (.func fid) #[] caps] w (GivesForm F w) :=
  settled_s fid caps F 400 400 rfl (by omega) L G hL1 hL2 (fun t ht => hm t (by omega)) hG hs w eg (hcl.less (by omega))

theorem pcurve_i (fid : FuncId) (caps : Array Value) (F : Nat → Int) (si : Int) (s : Nat) (hsi : si = s) (P : Nat) (c : Int) (hP1 : 1 ≤ P) (hP2 : P ≤ 120) (hs : s ≤ 1000) (hbd : ∀ t, t < s + 2 * P → 0 ≤ F t ∧ F t ≤ 4611686018427387904) (hper : Per F s P c) (w : World)
    (eg : ∀ (args : Array Value) (w : World), (callFunc fid args).run Try.prog w = .ok (.enter fid args) w) (hcl : ClosG fid caps (s + 2 * P) F w) :
    Calls Try.prog 94 #[.int .i64 si, .int .i64 P, .func (.func fid) #[] caps] w (GivesForm F w) := by
  subst hsi; exact pcurve_any fid caps F s P c hP1 hP2 (by omega) hbd hper w eg hcl

/-- The normal form is handed back, with no error. -/
theorem checked_ok (a : Option Addr) (n cap : Nat) (zs : List Int) (p : Nat) (inc : Int) (g : Good zs p inc) (x lo hi : Int) (h1 : lo ≤ x) (h2 : x ≤ hi) (w : World) (h : RowZ w a n cap zs) :
    Calls Try.prog 92 #[curV a n cap p inc, .int .i64 x, .int .i64 lo, .int .i64 hi] w (GivesNorm2 zs p inc w) := by
  have hB : Below w.heap.size w ((w.alloc (.cells #[.slice a n cap, .int .i64 p, .int .i64 inc] 24)).alloc (.cells #[.slice none 0 0, .int .i64 0, .int .i64 0] 24)) :=
    ((Below.refl _ _).alloc (Nat.le_refl _) _).alloc (by simp) _
  have HBl := Lib.hid hB
  have H := Lib.hid (h.under hB)
  have G := Lib.hid g
  have K0 := Lib.hid ((Cur3.new w (.slice a n cap) (.int .i64 p) (.int .i64 inc) 24).alloc (.cells #[.slice none 0 0, .int .i64 0, .int .i64 0] 24))
  have K1 := Lib.hid (Cur3.new2 w (.slice none 0 0) (.int .i64 0) (.int .i64 0) 24 (.cells #[.slice a n cap, .int .i64 p, .int .i64 inc] 24))
  have hsz : ((w.alloc (.cells #[.slice a n cap, .int .i64 p, .int .i64 inc] 24)).alloc (.cells #[.slice none 0 0, .int .i64 0, .int .i64 0] 24)).heap.size = w.heap.size + 1 + 1 := by simp
  have HSZ := Lib.hid hsz
  clear h hB g hsz
  go_enter Try.func92, Try.ntmps92
  go_wp2_with fail
  refine (normal_ok a n cap zs p inc G.out _ H.out).mono ?_
  rintro e w1 ⟨a', n', cap', zs', p', inc', rfl, hb, hr, hn, hx⟩
  have hx2 : ∀ y, a' = some y → w.heap.size + 1 < y.block := fun y hy => by have := hx y hy; have := HSZ.out; omega
  have hne : ∀ y : Addr, a' = some y → 1 ≤ n' → y.block ≠ w.heap.size := fun y hy _ => by have := hx2 y hy; omega
  have HP := Lib.hid (norm_post2 (b := w.heap.size + 1) (below_set3 (b := w.heap.size) (HBl.out.trans (hb.mono HBl.out.size)) (Nat.le_refl _) (.slice a' n' cap') (.int .i64 p') (.int .i64 inc')) (Nat.le_succ _) (((hr.store hne _ _).store hne _ _).store hne _ _) hx2 p' inc' hn)
  obtain ⟨c0, c1, c2, f0, f1, f2⟩ := K0.out.below hb
  obtain ⟨d0, d1, d2, g0, g1, g2⟩ := K1.out.below hb
  clear hb hr hn hx hx2 hne
  go_wp2_with fail
  exact bodyPost_ret (v := .tuple #[curV a' n' cap' p' inc', .int .i64 0]) (by simp [results, Try.results92, go_sem, d0, d1, d2, c0, c1, c2]) rfl HP.out

end Go.Proofs.Ythljhddnfflpjaa
