/- Contracts of package pointwise: checked, settled, fromZero. By the verifier's side. -/
import Derived.Test.YtahpkmohgbicfaaPwC
namespace Go.Proofs.Ytahpkmohgbicfaa
open Go.RowKit
set_option linter.unusedSimpArgs false

theorem ClosG.congr {fid : FuncId} {caps : Array Value} {T : Nat} {f F : Nat → Int} {w : World} (h : ClosG fid caps T f w) (he : ∀ t, t < T → f t = F t) : ClosG fid caps T F w :=
  fun ti t v w' h1 h2 h3 h4 => h ti t v w' h1 h2 ((he t h2).trans h3) h4

theorem form_post {w w1 w2 : World} {b : Nat} {F : Nat → Int} (hB : Below w.heap.size w w1) (hb1 : w.heap.size ≤ b) (hb2 : b < w1.heap.size) (h2 : Below w1.heap.size w1 w2) {a : Option Addr} {n cap : Nat} {zs : List Int} {p : Nat} {inc : Int} (hr : RowZ w2 a n cap zs)
    (hx : ∀ x, a = some x → w1.heap.size ≤ x.block) (hf : Form zs p inc F) :
    GivesForm F w (.returned (.tuple #[curV a n cap p inc, .int .i64 0])) (((w2.setCell ⟨b, 0, none⟩ (.slice a n cap)).setCell ⟨b, 1, none⟩ (.int .i64 p)).setCell ⟨b, 2, none⟩ (.int .i64 inc)) := by
  have hne : ∀ x : Addr, a = some x → 1 ≤ n → x.block ≠ b := fun x h _ => by have := hx x h; omega
  exact ⟨below_set3 (hB.trans (h2.mono hB.size)) hb1 _ _ _, .inl ⟨a, n, cap, zs, p, inc, rfl, ((hr.store hne _ _).store hne _ _).store hne _ _, hf, fun x h => by have := hx x h; have := hB.size; omega⟩⟩

theorem none_post {w w1 w2 : World} {b : Nat} {F : Nat → Int} (hB : Below w.heap.size w w1) (hb1 : w.heap.size ≤ b) (h2 : Below w1.heap.size w1 w2) (hno : ¬ CanBe F) :
    GivesForm F w (.returned (.tuple #[curV none 0 0 0 0, .int .i64 3])) (((w2.setCell ⟨b, 0, none⟩ (.slice none 0 0)).setCell ⟨b, 1, none⟩ (.int .i64 0)).setCell ⟨b, 2, none⟩ (.int .i64 0)) :=
  ⟨below_set3 (hB.trans (h2.mono hB.size)) hb1 _ _ _, .inr ⟨rfl, hno⟩⟩

set_option maxHeartbeats 1600000 in
theorem settled_any (fid : FuncId) (caps : Array Value) (F : Nat → Int) (L : Nat) (G : Int) (hL1 : 1 ≤ L) (hL2 : L ≤ 120) (hm : ∀ t, t < 1000 → Mid (F t)) (hG : Mid G) (hs : Settling F L G) (w : World)
    (eg : ∀ (args : Array Value) (w : World), (callFunc fid args).run Try.prog w = .ok (.enter fid args) w) (hcl : ClosG fid caps 1000 F w) :
    Calls Try.prog 66 #[.int .i64 L, .int .i64 G, .func (.func fid) #[] caps] w (GivesForm F w) := by
  have HM := Lib.hid hm
  have HG := Lib.hid hG
  have HS := Lib.hid hs
  have HCL := Lib.hid hcl
  have hB0 : Below w.heap.size w (w.alloc (.cells #[.slice none 0 0, .int .i64 0, .int .i64 0] 24)) := (Below.refl _ _).alloc (Nat.le_refl _) _
  have HB0 := Lib.hid hB0
  have HC0 := Lib.hid (Cur3.new w (.slice none 0 0) (.int .i64 0) (.int .i64 0) 24)
  clear hm hG hs hcl hB0
  go_enter Try.func66, Try.ntmps66
  go_wp2_with fail
  generalize w.alloc (.cells #[.slice none 0 0, .int .i64 0, .int .i64 0] 24) = W at HB0 HC0 ⊢
  have HCW := Lib.hid (show ∀ (ti : Int) (t : Nat) (v : Int) (w' : World), ti = t → t < 1000 → F t = v → (∃ m, w' = W.drewN m) → Calls Try.prog fid (#[.int .i64 ti] ++ caps) w' (Drew (.int .i64 v) w') from
    fun ti t v w' h1 h2 h3 h4 => HCL.out ti t v w' h1 h2 h3 (below_dr HB0.out h4))
  go_loopw [8] (fun s8 wx => ∃ t : Nat, s8 = .int .i64 t ∧ 400 ≤ t ∧ t ≤ 400 + L ∧ Hid (∀ u, 400 ≤ u → u < t → F (u + L) = plI (F u) G) ∧ Hid (∃ m, wx = W.drewN m)) (fun s8 _ => 400 + L - (intOf s8).toNat)
  case atStart => exact ⟨400, by go_num, Nat.le_refl _, by omega, fun u h1 h2 => by omega, 0, rfl⟩
  case round =>
    obtain ⟨t, rfl, ht1, ht2, hok, hdr⟩ := hrel
    obtain ⟨w1, rfl⟩ : ∃ u : World, u = wr := ⟨_, rfl⟩
    by_cases hlt : t < 400 + L
    · have hl2 : (t : Int) < 400 + (L : Int) := by omega
      obtain ⟨v1, hv1⟩ : ∃ v, F (t + L) = v := ⟨_, rfl⟩
      obtain ⟨v2, hv2⟩ : ∃ v, F t = v := ⟨_, rfl⟩
      have HV := Lib.hid (And.intro hv1 hv2)
      have HM2 := Lib.hid (show Mid v2 by rw [← hv2]; exact HM.out t (by omega))
      clear hv1 hv2
      by_cases hd : v1 = plI v2 G
      · have t1 : (v1 != plI v2 G) = false := by simpa using hd
        have HD := Lib.hid hd
        clear hd
        go_wp2_with fail
        refine (HCW.out _ (t + L) v1 _ (by omega) (by omega) HV.out.1 hdr.out).mono ?_
        rintro e w2 ⟨rfl, hd1⟩
        have D2 := Lib.hid (dr_trans hdr.out hd1)
        clear hd1
        go_wp2_with fail
        refine (HCW.out _ t v2 _ rfl (by omega) HV.out.2 D2.out).mono ?_
        rintro e w3 ⟨rfl, hd1⟩
        have D3 := Lib.hid (dr_trans D2.out hd1)
        clear hd1
        go_wp2_with fail
        refine (pplus_any v2 G HM2.out HG.out _).mono ?_
        rintro e w4 ⟨rfl, rfl⟩
        go_wp2_with fail
        go_roundw
        case rel =>
          refine ⟨t + 1, by go_num, by omega, by omega, fun u h1 h2 => ?_, D3⟩
          by_cases he : u = t
          · subst he; rw [HV.out.1, HV.out.2]; exact HD.out
          · exact hok.out u h1 (by omega)
        case measure => simp [intOf]; omega
      · have t1 : (v1 != plI v2 G) = true := by simpa using hd
        have HNO := Lib.hid (HS.out.2 fun hc => hd (by have := hc t ht1 hlt; rwa [HV.out.1, HV.out.2] at this))
        clear hd
        go_wp2_with fail
        refine (HCW.out _ (t + L) v1 _ (by omega) (by omega) HV.out.1 hdr.out).mono ?_
        rintro e w2 ⟨rfl, hd1⟩
        have D2 := Lib.hid (dr_trans hdr.out hd1)
        clear hd1
        go_wp2_with fail
        refine (HCW.out _ t v2 _ rfl (by omega) HV.out.2 D2.out).mono ?_
        rintro e w3 ⟨rfl, hd1⟩
        have D3 := Lib.hid (dr_trans D2.out hd1)
        clear hd1
        go_wp2_with fail
        refine (pplus_any v2 G HM2.out HG.out _).mono ?_
        rintro e w4 ⟨rfl, rfl⟩
        have HP := Lib.hid (none_post (b := w.heap.size) HB0.out (Nat.le_refl _) (below_dr (Below.refl _ _) D3.out) HNO.out)
        obtain ⟨c0, c1, c2, f0, f1, f2⟩ := HC0.out.dr D3.out
        go_wp2_with fail
        exact bodyPost_ret (v := .tuple #[curV none 0 0 0 0, .int .i64 3]) (by simp [results, Try.results66, go_sem, c0, c1, c2]) rfl HP.out
    · obtain rfl : t = 400 + L := by omega
      have hl2 : ¬ (((400 + L : Nat) : Int) < 400 + (L : Int)) := by omega
      obtain ⟨c, hc⟩ := HS.out.1 (fun u h1 h2 => hok.out u h1 h2)
      have HPer := Lib.hid hc
      clear hc
      go_wp2_with fail
      refine (pcurve_any fid caps F 400 L c hL1 hL2 (by omega) (fun u hu => by have := (HM.out u (by omega)).bd; omega) HPer.out _ eg ((HCL.out.above (below_dr HB0.out hdr.out)).less (by omega))).mono ?_
      rintro e w2 ⟨hb, ⟨a, n, cap, zs, p, inc, rfl, hr, hf, hx⟩ | ⟨rfl, hno⟩⟩
      · have HP := Lib.hid (form_post (b := w.heap.size) (below_dr HB0.out hdr.out) (Nat.le_refl _) (HC0.out.dr hdr.out).lt hb hr hx hf)
        obtain ⟨c0, c1, c2, f0, f1, f2⟩ := (HC0.out.dr hdr.out).below hb
        clear hb hr hf hx
        go_wp2_with fail
        exact bodyPost_ret (v := .tuple #[curV a n cap p inc, .int .i64 0]) (by simp [results, Try.results66, go_sem, c0, c1, c2]) rfl HP.out
      · have HP := Lib.hid (none_post (b := w.heap.size) (below_dr HB0.out hdr.out) (Nat.le_refl _) hb hno)
        obtain ⟨c0, c1, c2, f0, f1, f2⟩ := (HC0.out.dr hdr.out).below hb
        clear hb hno
        go_wp2_with fail
        exact bodyPost_ret (v := .tuple #[curV none 0 0 0 0, .int .i64 3]) (by simp [results, Try.results66, go_sem, c0, c1, c2]) rfl HP.out

theorem pcurve_i (fid : FuncId) (caps : Array Value) (F : Nat → Int) (si : Int) (s : Nat) (hsi : si = s) (P : Nat) (c : Int) (hP1 : 1 ≤ P) (hP2 : P ≤ 120) (hs : s ≤ 1000) (hbd : ∀ t, t < s + 2 * P → 0 ≤ F t ∧ F t ≤ 4611686018427387904) (hper : Per F s P c) (w : World)
    (eg : ∀ (args : Array Value) (w : World), (callFunc fid args).run Try.prog w = .ok (.enter fid args) w) (hcl : ClosG fid caps (s + 2 * P) F w) :
    Calls Try.prog 58 #[.int .i64 si, .int .i64 P, .func (.func fid) #[] caps] w (GivesForm F w) := by
  subst hsi; exact pcurve_any fid caps F s P c hP1 hP2 hs hbd hper w eg hcl

set_option maxRecDepth 100000 in
set_option maxHeartbeats 1600000 in
theorem fromZero_any (fid : FuncId) (caps : Array Value) (f F : Nat → Int) (si : Int) (hsi : -9223372036854775808 ≤ si) (s P : Nat) (hF : ∀ t, t < s + 2 * P → F t = if t = 0 then 0 else f t) (hsm : (s : Int) = max si 1) (c : Int) (hP1 : 1 ≤ P) (hP2 : P ≤ 120) (hs : s ≤ 1000) (hbd : ∀ t, t < s + 2 * P → 0 ≤ F t ∧ F t ≤ 4611686018427387904) (hper : Per F s P c) (w : World)
    (eg : ∀ (args : Array Value) (w : World), (callFunc fid args).run Try.prog w = .ok (.enter fid args) w) (hcl : ClosG fid caps (s + 2 * P) f w) :
    Calls Try.prog 64 #[.int .i64 si, .int .i64 P, .func (.func fid) #[] caps] w (GivesForm F w) := by
  have hmf : ∀ (fn : Fn) (first cap : Array Value) (w : World), (Instr.makeFunc fn first cap).run Try.prog w = .ok (.func fn first cap) w := fun _ _ _ _ => rfl
  have hB0 : Below w.heap.size w ((w.alloc (.cells #[.func (.func fid) #[] caps] 40)).alloc (.cells #[.slice none 0 0, .int .i64 0, .int .i64 0] 24)) := ((Below.refl _ _).alloc (Nat.le_refl _) _).alloc (by simp) _
  have hv : ((w.alloc (.cells #[.func (.func fid) #[] caps] 40)).alloc (.cells #[.slice none 0 0, .int .i64 0, .int .i64 0] 24)).cell? ⟨w.heap.size, 0, none⟩ = some (.func (.func fid) #[] caps) := by go_simp
  have HB0 := Lib.hid hB0
  have HC0 := Lib.hid (Cur3.new2 w (.slice none 0 0) (.int .i64 0) (.int .i64 0) 24 (.cells #[.func (.func fid) #[] caps] 40))
  have HCL := Lib.hid (show ClosG 85 #[.pointer (some ⟨w.heap.size, 0, none⟩)] (s + 2 * P) F _ from by
    have := fromZero1_any (bv := w.heap.size) hv eg (hcl.above hB0)
    exact this.congr fun t ht => (hF t ht).symm)
  have HBD := Lib.hid hbd
  have HPer := Lib.hid hper
  have eg1 : ∀ (args : Array Value) (w : World), (callFunc 85 args).run Try.prog w = .ok (.enter 85 args) w := enters_of Try.func85 (by kernel_rfl) rfl
  have HE1 := Lib.hid eg1
  have hsz : ((w.alloc (.cells #[.func (.func fid) #[] caps] 40)).alloc (.cells #[.slice none 0 0, .int .i64 0, .int .i64 0] 24)).heap.size = w.heap.size + 1 + 1 := by simp
  have HSZ := Lib.hid hsz
  have HSS := Lib.hid (And.intro hs hsm)
  rcases (show si < 1 ∨ si = 1 ∨ 1 < si by omega) with h1 | h1 | h1
  all_goals
    (try subst h1)
    clear hB0 hv hF hcl hbd hper eg eg1 hsz hs hsm
    go_enter Try.func64, Try.ntmps64
    go_wp2_with fail
    refine (pcurve_i 85 #[.pointer (some ⟨w.heap.size, 0, none⟩)] F _ s (by have := HSS.out; omega) P c hP1 hP2 HSS.out.1 HBD.out HPer.out _ HE1.out HCL.out).mono ?_
    rintro e w2 ⟨hb, ⟨a, n, cap, zs, p, inc, rfl, hr, hf, hx⟩ | ⟨rfl, hno⟩⟩
    · have HP := Lib.hid (form_post (b := w.heap.size + 1) HB0.out (Nat.le_succ _) HC0.out.lt hb hr hx hf)
      obtain ⟨c0, c1, c2, f0, f1, f2⟩ := HC0.out.below hb
      clear hb hr hf hx
      go_wp2_with fail
      exact bodyPost_ret (v := .tuple #[curV a n cap p inc, .int .i64 0]) (by simp [results, Try.results64, go_sem, c0, c1, c2]) rfl HP.out
    · have HP := Lib.hid (none_post (b := w.heap.size + 1) HB0.out (Nat.le_succ _) hb hno)
      obtain ⟨c0, c1, c2, f0, f1, f2⟩ := HC0.out.below hb
      clear hb hno
      go_wp2_with fail
      exact bodyPost_ret (v := .tuple #[curV none 0 0 0 0, .int .i64 3]) (by simp [results, Try.results64, go_sem, c0, c1, c2]) rfl HP.out

/-- The normal form is handed back, with no error. -/
theorem checked_ok (a : Option Addr) (n cap : Nat) (zs : List Int) (p : Nat) (inc : Int) (g : Good zs p inc) (x lo hi : Int) (h1 : lo ≤ x) (h2 : x ≤ hi) (w : World) (h : RowZ w a n cap zs) :
    Calls Try.prog 56 #[curV a n cap p inc, .int .i64 x, .int .i64 lo, .int .i64 hi] w (GivesNorm2 zs p inc w) := by
  have hB : Below w.heap.size w ((w.alloc (.cells #[.slice a n cap, .int .i64 p, .int .i64 inc] 24)).alloc (.cells #[.slice none 0 0, .int .i64 0, .int .i64 0] 24)) :=
    ((Below.refl _ _).alloc (Nat.le_refl _) _).alloc (by simp) _
  have HBl := Lib.hid hB
  have H := Lib.hid (h.under hB)
  have G := Lib.hid g
  have K0 := Lib.hid ((Cur3.new w (.slice a n cap) (.int .i64 p) (.int .i64 inc) 24).alloc (.cells #[.slice none 0 0, .int .i64 0, .int .i64 0] 24))
  have K1 := Lib.hid (Cur3.new2 w (.slice none 0 0) (.int .i64 0) (.int .i64 0) 24 (.cells #[.slice a n cap, .int .i64 p, .int .i64 inc] 24))
  have hsz : ((w.alloc (.cells #[.slice a n cap, .int .i64 p, .int .i64 inc] 24)).alloc (.cells #[.slice none 0 0, .int .i64 0, .int .i64 0] 24)).heap.size = w.heap.size + 1 + 1 := by simp
  have HSZ := Lib.hid hsz
  clear h hB g hsz
  go_enter Try.func56, Try.ntmps56
  go_wp2_with fail
  refine (normal_ok a n cap zs p inc G.out _ H.out).mono ?_
  rintro e w1 ⟨a', n', cap', zs', p', inc', rfl, hb, hr, hn, hx⟩
  have hx2 : ∀ y, a' = some y → w.heap.size + 1 < y.block := fun y hy => by have := hx y hy; have := HSZ.out; omega
  have hne : ∀ y : Addr, a' = some y → 1 ≤ n' → y.block ≠ w.heap.size := fun y hy _ => by have := hx2 y hy; omega
  have HP := Lib.hid (norm_post2 (b := w.heap.size + 1) (below_set3 (b := w.heap.size) (HBl.out.trans (hb.mono HBl.out.size)) (Nat.le_refl _) (.slice a' n' cap') (.int .i64 p') (.int .i64 inc')) (Nat.le_succ _) (((hr.store hne _ _).store hne _ _).store hne _ _) hx2 p' inc' hn)
  obtain ⟨c0, c1, c2, f0, f1, f2⟩ := K0.out.below hb
  obtain ⟨d0, d1, d2, g0, g1, g2⟩ := K1.out.below hb
  clear hb hr hn hx hx2 hne
  go_wp2_with fail
  exact bodyPost_ret (v := .tuple #[curV a' n' cap' p' inc', .int .i64 0]) (by simp [results, Try.results56, go_sem, d0, d1, d2, c0, c1, c2]) rfl HP.out

/-- Of what is no curve, or a number out of range: the error. -/
theorem checked_bad (a : Option Addr) (n cap : Nat) (zs : List Int) (p inc : Int) (hp : In64 p) (hi : In64 inc) (hok : okC zs p inc = false) (x lo up : Int) (w : World) (h : RowZ w a n cap zs) :
    Calls Try.prog 56 #[curV a n cap p inc, .int .i64 x, .int .i64 lo, .int .i64 up] w (Says (.tuple #[curV none 0 0 0 0, .int .i64 1]) w) := by
  have hB : Below w.heap.size w ((w.alloc (.cells #[.slice a n cap, .int .i64 p, .int .i64 inc] 24)).alloc (.cells #[.slice none 0 0, .int .i64 0, .int .i64 0] 24)) :=
    ((Below.refl _ _).alloc (Nat.le_refl _) _).alloc (by simp) _
  have HBl := Lib.hid hB
  have H := Lib.hid (h.under hB)
  have HO := Lib.hid hok
  have K0 := Lib.hid ((Cur3.new w (.slice a n cap) (.int .i64 p) (.int .i64 inc) 24).alloc (.cells #[.slice none 0 0, .int .i64 0, .int .i64 0] 24))
  have K1 := Lib.hid (Cur3.new2 w (.slice none 0 0) (.int .i64 0) (.int .i64 0) 24 (.cells #[.slice a n cap, .int .i64 p, .int .i64 inc] 24))
  clear h hB hok
  go_enter Try.func56, Try.ntmps56
  go_wp2_with fail
  refine (normal_bad a n cap zs p inc hp hi HO.out _ H.out).mono ?_
  rintro e w1 ⟨rfl, hb⟩
  have HP := Lib.hid (below_set3 (b := w.heap.size + 1) (below_set3 (b := w.heap.size) (HBl.out.trans (hb.mono HBl.out.size)) (Nat.le_refl _) (.slice none 0 0) (.int .i64 0) (.int .i64 0)) (Nat.le_succ _) (.slice none 0 0) (.int .i64 0) (.int .i64 0))
  obtain ⟨c0, c1, c2, f0, f1, f2⟩ := K0.out.below hb
  obtain ⟨d0, d1, d2, g0, g1, g2⟩ := K1.out.below hb
  clear hb
  go_wp2_with fail
  exact bodyPost_ret (v := .tuple #[curV none 0 0 0 0, .int .i64 1]) (by simp [results, Try.results56, go_sem, d0, d1, d2, c0, c1, c2]) rfl ⟨rfl, HP.out⟩

theorem checked_range (a : Option Addr) (n cap : Nat) (zs : List Int) (p : Nat) (inc : Int) (g : Good zs p inc) (x lo up : Int) (h1 : x < lo ∨ up < x) (w : World) (h : RowZ w a n cap zs) :
    Calls Try.prog 56 #[curV a n cap p inc, .int .i64 x, .int .i64 lo, .int .i64 up] w (Says (.tuple #[curV none 0 0 0 0, .int .i64 2]) w) := by
  have hB : Below w.heap.size w ((w.alloc (.cells #[.slice a n cap, .int .i64 p, .int .i64 inc] 24)).alloc (.cells #[.slice none 0 0, .int .i64 0, .int .i64 0] 24)) :=
    ((Below.refl _ _).alloc (Nat.le_refl _) _).alloc (by simp) _
  have HBl := Lib.hid hB
  have H := Lib.hid (h.under hB)
  have G := Lib.hid g
  have K0 := Lib.hid ((Cur3.new w (.slice a n cap) (.int .i64 p) (.int .i64 inc) 24).alloc (.cells #[.slice none 0 0, .int .i64 0, .int .i64 0] 24))
  have K1 := Lib.hid (Cur3.new2 w (.slice none 0 0) (.int .i64 0) (.int .i64 0) 24 (.cells #[.slice a n cap, .int .i64 p, .int .i64 inc] 24))
  clear h hB g
  rcases (show x < lo ∨ (¬ x < lo ∧ up < x) by omega) with h2 | ⟨h2, h3⟩
  all_goals
    clear h1
    go_enter Try.func56, Try.ntmps56
    go_wp2_with fail
    refine (normal_ok a n cap zs p inc G.out _ H.out).mono ?_
    rintro e w1 ⟨a', n', cap', zs', p', inc', rfl, hb, hr, hn, hx⟩
    have HP := Lib.hid (below_set3 (b := w.heap.size + 1) (below_set3 (b := w.heap.size) (HBl.out.trans (hb.mono HBl.out.size)) (Nat.le_refl _) (.slice a' n' cap') (.int .i64 p') (.int .i64 inc')) (Nat.le_succ _) (.slice none 0 0) (.int .i64 0) (.int .i64 0))
    obtain ⟨c0, c1, c2, f0, f1, f2⟩ := K0.out.below hb
    obtain ⟨d0, d1, d2, g0, g1, g2⟩ := K1.out.below hb
    clear hb hr hn hx
    go_wp2_with fail
    exact bodyPost_ret (v := .tuple #[curV none 0 0 0 0, .int .i64 2]) (by simp [results, Try.results56, go_sem, d0, d1, d2, c0, c1, c2]) rfl ⟨rfl, HP.out⟩

end Go.Proofs.Ytahpkmohgbicfaa
