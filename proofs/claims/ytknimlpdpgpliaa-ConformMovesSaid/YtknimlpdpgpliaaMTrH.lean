/- The sort of package slices at packets: the stable order; Order of package trace. By the verifier's side. -/
import Derived.Test.YtknimlpdpgpliaaMTrG
namespace Go.Proofs.Ytknimlpdpgpliaa
open Go.RowKit Go.Sort
set_option linter.unusedSimpArgs false
set_option linter.unusedVariables false

theorem symMerge13 (B off n cap : Nat) (hn : n ≤ 1000) : ∀ (d a m b : Nat) (L L' : List Pk) (w : World), b - a ≤ d → Mer L' a m b n L → a < m → m < b → PkO w B off L →
    Calls Try.prog 166 #[.slice (some ⟨B, off, none⟩) n cap, .int .i64 a, .int .i64 m, .int .i64 b, .func (.func 91) #[] #[]] w (Sorts B off L' w)
  | 0, a, m, b, L, L', w, hd, hM, h1, h2, h => by omega
  | d + 1, a, m, b, L, L', w, hd, hM, h1, h2, h => by
    by_cases c1 : m = a + 1
    · exact symOne13 B off n cap a m b L L' hM c1 h2 w h hn
    · by_cases c2 : b = m + 1
      · exact symTwo13 B off n cap a m b L L' hM c2 (by omega) w h hn
      · exact symGen13 B off n cap a m b L L' hM (by omega) (by omega) w h hn (fun a' m' b' y y' u hM' hlt h1' h2' h' => symMerge13 B off n cap hn d a' m' b' y y' u (by omega) hM' h1' h2' h')

/-- k blocks of bs packets each, in order; and what they were. -/
def Fl (bs : Nat) : Nat → List Pk → List Pk → Prop
  | 0, Z, lZ => Z = [] ∧ lZ = []
  | k + 1, Z, lZ => ∃ X Z' lZ', X.length = bs ∧ Z = isort X ++ Z' ∧ lZ = X ++ lZ' ∧ Fl bs k Z' lZ'
theorem Fl.len {bs : Nat} : ∀ {k : Nat} {Z lZ : List Pk}, Fl bs k Z lZ → Z.length = k * bs ∧ lZ.length = k * bs
  | 0, Z, lZ, h => by obtain ⟨rfl, rfl⟩ := h; simp
  | k + 1, Z, lZ, h => by
    obtain ⟨X, Z', lZ', hX, rfl, rfl, h'⟩ := h
    obtain ⟨h1, h2⟩ := Fl.len h'
    rw [List.length_append, List.length_append, isort_length, Nat.add_mul, h1, h2]
    omega
theorem Fl.snoc {bs : Nat} {X : List Pk} (hX : X.length = bs) : ∀ {k : Nat} {Z lZ : List Pk}, Fl bs k Z lZ → Fl bs (k + 1) (Z ++ isort X) (lZ ++ X)
  | 0, Z, lZ, h => by obtain ⟨rfl, rfl⟩ := h; exact ⟨X, [], [], hX, by simp, by simp, rfl, rfl⟩
  | k + 1, Z, lZ, h => by
    obtain ⟨Y, Z', lZ', hY, rfl, rfl, h'⟩ := h
    exact ⟨Y, Z' ++ isort X, lZ' ++ X, hY, by simp, by simp, Fl.snoc hX h'⟩
/-- The first loop. -/
def St1 (l : List Pk) (a : Nat) (y : List Pk) : Prop := ∃ k Z lZ r, y = Z ++ r ∧ l = lZ ++ r ∧ Fl 20 k Z lZ ∧ Z.length = a
/-- Blocks of bs packets in order, and a shorter one. -/
def Full (l : List Pk) (bs : Nat) (y : List Pk) : Prop := ∃ k Z lZ r, y = Z ++ isort r ∧ l = lZ ++ r ∧ Fl bs k Z lZ ∧ r.length < bs
theorem St1.start (l : List Pk) : St1 l 0 l := ⟨0, [], [], l, rfl, rfl, ⟨rfl, rfl⟩, rfl⟩
theorem St1.len {l y : List Pk} {a : Nat} (h : St1 l a y) : y.length = l.length ∧ a ≤ l.length := by
  obtain ⟨k, Z, lZ, r, rfl, rfl, hf, ha⟩ := h
  have := hf.len
  simp only [List.length_append]; omega
theorem St1.step {l y : List Pk} {a : Nat} (h : St1 l a y) (hb : a + 20 ≤ l.length) : ∃ L', InsO L' a (a + 20) l.length 1 y ∧ St1 l (a + 20) L' := by
  have hl := h.len.1
  obtain ⟨k, Z, lZ, r, rfl, rfl, hf, ha⟩ := h
  have hz := hf.len
  have e : r.take 20 ++ r.drop 20 = r := List.take_append_drop 20 r
  have hr : (r.take 20).length = 20 := by rw [List.length_take]; simp only [List.length_append] at hb; omega
  refine ⟨Z ++ (isort (r.take 20) ++ r.drop 20), ?_, k + 1, Z ++ isort (r.take 20), lZ ++ r.take 20, r.drop 20, by simp, by rw [List.append_assoc, e], hf.snoc hr, by rw [List.length_append, isort_length]; omega⟩
  have := InsO.start (P := Z) (X := r.take 20) (Q := r.drop 20) (y := Z ++ r) (by rw [e])
  rw [ha, hr, hl] at this
  exact this
theorem St1.last {l y : List Pk} {a : Nat} (h : St1 l a y) (hb : ¬ a + 20 ≤ l.length) : ∃ L', InsO L' a l.length l.length 1 y ∧ Full l 20 L' := by
  have hl := h.len
  obtain ⟨k, Z, lZ, r, rfl, rfl, hf, ha⟩ := h
  have hz := hf.len
  refine ⟨Z ++ isort r, ?_, k, Z, lZ, r, rfl, rfl, hf, by simp only [List.length_append] at hb; omega⟩
  have := InsO.start (P := Z) (X := r) (Q := []) (y := Z ++ r) (by simp)
  rw [List.append_nil, ha, hl.1] at this
  rw [show a + r.length = (lZ ++ r).length by rw [List.length_append]; omega] at this
  exact this
theorem Full.fin {l y : List Pk} {bs : Nat} (h : Full l bs y) (hb : l.length ≤ bs) : y = isort l := by
  obtain ⟨k, Z, lZ, r, rfl, rfl, hf, hr⟩ := h
  cases k with
  | zero => obtain ⟨rfl, rfl⟩ := hf; rfl
  | succ k =>
    obtain ⟨X, Z', lZ', hX, rfl, rfl, h'⟩ := hf
    have h2 := h'.len
    simp only [List.length_append] at hb
    have : r = [] := List.length_eq_zero_iff.1 (by omega)
    have : Z' = [] := List.length_eq_zero_iff.1 (by omega)
    have : lZ' = [] := List.length_eq_zero_iff.1 (by omega)
    subst_vars
    simp [isort]
/-- A pass of merges. -/
def Pass (l : List Pk) (bs a : Nat) (y : List Pk) : Prop := ∃ k W lW y2 l2, y = W ++ y2 ∧ l = lW ++ l2 ∧ Fl (2 * bs) k W lW ∧ W.length = a ∧ Full l2 bs y2
theorem Full.len {l y : List Pk} {bs : Nat} (h : Full l bs y) : y.length = l.length := by
  obtain ⟨k, Z, lZ, r, rfl, rfl, hf, hr⟩ := h
  have := hf.len
  simp only [List.length_append, isort_length]; omega
theorem Pass.start {l y : List Pk} {bs : Nat} (h : Full l bs y) : Pass l bs 0 y := ⟨0, [], [], y, l, rfl, rfl, ⟨rfl, rfl⟩, rfl, h⟩
theorem Pass.len {l y : List Pk} {bs a : Nat} (h : Pass l bs a y) : y.length = l.length ∧ a ≤ l.length := by
  obtain ⟨k, W, lW, y2, l2, rfl, rfl, hf, ha, h2⟩ := h
  have := hf.len
  have := h2.len
  simp only [List.length_append]; omega
theorem Pass.step {l y : List Pk} {bs a : Nat} (h : Pass l bs a y) (h0 : 1 ≤ bs) (hb : a + 2 * bs ≤ l.length) : ∃ L', Mer L' a (a + bs) (a + 2 * bs) l.length y ∧ Pass l bs (a + 2 * bs) L' := by
  have hl := h.len.1
  obtain ⟨k, W, lW, y2, l2, rfl, rfl, hf, ha, k2, Z, lZ, r, rfl, rfl, hz, hr⟩ := h
  have hfl := hf.len
  have hzl := hz.len
  simp only [List.length_append] at hb
  cases k2 with
  | zero => obtain ⟨rfl, rfl⟩ := hz; simp at hb; omega
  | succ k2 =>
    obtain ⟨X, Z', lZ', hX, rfl, rfl, hz'⟩ := hz
    cases k2 with
    | zero => obtain ⟨rfl, rfl⟩ := hz'; simp at hb; omega
    | succ k2 =>
      obtain ⟨Y, Z2, lZ2, hY, rfl, rfl, hz2⟩ := hz'
      refine ⟨W ++ (into (isort X) (isort Y) ++ (Z2 ++ isort r)), ⟨W, isort X, isort Y, Z2 ++ isort r, by simp, ha, by rw [isort_length]; omega, by rw [isort_length]; omega, isort_asc _, isort_asc _, rfl, hl⟩, k + 1, W ++ isort (X ++ Y), lW ++ (X ++ Y), Z2 ++ isort r, lZ2 ++ r, by rw [into_isort]; simp, by simp, hf.snoc (by rw [List.length_append]; omega), by rw [List.length_append, isort_length, List.length_append]; omega, k2, Z2, lZ2, r, rfl, rfl, hz2, hr⟩
theorem Pass.last {l y : List Pk} {bs a : Nat} (h : Pass l bs a y) (h0 : 1 ≤ bs) (hb : ¬ a + 2 * bs ≤ l.length) : ∃ L', (a + bs < l.length → Mer L' a (a + bs) l.length l.length y) ∧ (¬ a + bs < l.length → L' = y) ∧ Full l (2 * bs) L' := by
  have hl := h.len
  obtain ⟨k, W, lW, y2, l2, rfl, rfl, hf, ha, k2, Z, lZ, r, rfl, rfl, hz, hr⟩ := h
  have hfl := hf.len
  have hzl := hz.len
  simp only [List.length_append] at hb
  cases k2 with
  | zero =>
    obtain ⟨rfl, rfl⟩ := hz
    refine ⟨W ++ isort r, fun h => ?_, fun _ => by simp, k, W, lW, r, rfl, by simp, hf, by omega⟩
    simp only [List.length_append, List.length_nil] at h; omega
  | succ k2 =>
    obtain ⟨X, Z', lZ', hX, rfl, rfl, hz'⟩ := hz
    cases k2 with
    | zero =>
      obtain ⟨rfl, rfl⟩ := hz'
      refine ⟨W ++ isort (X ++ r), fun h => ⟨W, isort X, isort r, [], by simp, ha, by rw [isort_length]; omega, ?_, isort_asc _, isort_asc _, by rw [into_isort]; simp, hl.1⟩, fun h => ?_, k, W, lW, X ++ r, rfl, by simp, hf, by rw [List.length_append]; omega⟩
      · rw [isort_length]; simp only [List.length_append, List.length_nil]; omega
      · have : r = [] := List.length_eq_zero_iff.1 (by simp only [List.length_append, List.length_nil] at h; omega)
        subst this; simp [isort]
    | succ k2 =>
      obtain ⟨Y, Z2, lZ2, hY, rfl, rfl, hz2⟩ := hz'
      simp only [List.length_append] at hb; omega

set_option maxRecDepth 100000 in
set_option maxHeartbeats 3200000 in
theorem stable13 (B off n cap : Nat) (l : List Pk) (hl : l.length = n) (hn : n ≤ 1000) (w : World) (h : PkO w B off l) :
    Calls Try.prog 147 #[.slice (some ⟨B, off, none⟩) n cap, .int .i64 n, .func (.func 91) #[] #[]] w (Sorts B off (isort l) w) := by
  have HL := Lib.hid hl
  have H := Lib.hid (And.intro h (St1.start l))
  clear h hl
  go_enter Try.func147, Try.ntmps147
  go_wp2_with fail
  go_loopw [7, 8] (fun s7 s8 wx => ∃ (a : Nat) (y : List Pk), s7 = .int .i64 a ∧ s8 = .int .i64 ((a : Int) + 20) ∧ a ≤ n ∧ Hid (PkO wx B off y ∧ St1 l a y) ∧ Hid (Apart B w wx)) (fun s7 _ _ => n - (intOf s7).toNat)
  case atStart => exact ⟨0, l, rfl, rfl, Nat.zero_le _, H, Apart.refl _ _⟩
  case round =>
    obtain ⟨a, y, rfl, rfl, han, HO, HA⟩ := hrel
    obtain ⟨wk, rfl⟩ : ∃ u : World, u = wr := ⟨_, rfl⟩
    by_cases hb : a + 20 ≤ n
    · have hbI : (a : Int) + 20 ≤ (n : Int) := by omega
      obtain ⟨L1, hI, hS⟩ := HO.out.2.step (by rw [HL.out]; exact hb)
      rw [HL.out] at hI
      have hc := insertion13 B off n cap a (a + 20) y L1 hI wk HO.out.1 hn (by omega)
      rw [show ((a + 20 : Nat) : Int) = (a : Int) + 20 by omega] at hc
      have HS := Lib.hid hS
      clear hI hS
      go_wp2_with fail
      refine hc.mono ?_
      clear hc
      rintro e w1 ⟨rfl, ha1, ho1⟩
      have HS1 := Lib.hid (And.intro ha1 ho1)
      clear ha1 ho1
      go_wp2_with fail
      go_roundw
      case rel => exact ⟨a + 20, L1, by go_num, by go_num, hb, ⟨HS1.out.2, HS.out⟩, HA.out.trans HS1.out.1⟩
      case measure => first | (simp [intOf]; done) | (simp [intOf]; omega)
    · have hbI : ¬ (a : Int) + 20 ≤ (n : Int) := by omega
      obtain ⟨L1, hI, hS⟩ := HO.out.2.last (by rw [HL.out]; exact hb)
      rw [HL.out] at hI
      have hc := insertion13 B off n cap a n y L1 hI wk HO.out.1 hn han
      have HS := Lib.hid hS
      clear hI hS
      go_wp2_with fail
      refine hc.mono ?_
      clear hc
      rintro e w1 ⟨rfl, ha1, ho1⟩
      have HS1 := Lib.hid (And.intro (HA.out.trans ha1) ho1)
      clear ha1 ho1 HO HA
      go_wp2_with fail
      go_loopw [6] (fun s6 wx => ∃ (bs : Nat) (y : List Pk), s6 = .int .i64 bs ∧ 20 ≤ bs ∧ bs ≤ 2000 ∧ Hid (PkO wx B off y ∧ Full l bs y) ∧ Hid (Apart B w wx)) (fun s6 _ => 2000 - (intOf s6).toNat)
      case atStart => exact ⟨20, L1, rfl, Nat.le_refl _, by omega, ⟨HS1.out.2, HS.out⟩, HS1.out.1⟩
      case round =>
        obtain ⟨bs, y, rfl, hbs, hbs2, HO, HA⟩ := hrel
        obtain ⟨wm, rfl⟩ : ∃ u : World, u = wr := ⟨_, rfl⟩
        by_cases hbn : bs < n
        · have hbnI : (bs : Int) < (n : Int) := by omega
          have HP := Lib.hid (Pass.start HO.out.2)
          have HW := Lib.hid HO.out.1
          clear HO
          go_wp2_with fail
          go_loopw [7, 8] (fun s7 s8 wx => ∃ (a : Nat) (y : List Pk), s7 = .int .i64 a ∧ s8 = .int .i64 ((a : Int) + 2 * (bs : Int)) ∧ a ≤ n ∧ Hid (PkO wx B off y ∧ Pass l bs a y) ∧ Hid (Apart B w wx)) (fun s7 _ _ => n - (intOf s7).toNat)
          case atStart => exact ⟨0, y, rfl, by go_num, Nat.zero_le _, ⟨HW.out, HP.out⟩, HA⟩
          case round =>
            obtain ⟨a, y, rfl, rfl, han, HO, HA⟩ := hrel
            obtain ⟨wp, rfl⟩ : ∃ u : World, u = wr := ⟨_, rfl⟩
            by_cases hb : a + 2 * bs ≤ n
            · have hbI : (a : Int) + 2 * (bs : Int) ≤ (n : Int) := by omega
              obtain ⟨L2, hI, hS⟩ := HO.out.2.step (by omega) (by rw [HL.out]; exact hb)
              rw [HL.out] at hI
              have hc := symMerge13 B off n cap hn (2 * bs) a (a + bs) (a + 2 * bs) y L2 wp (by omega) hI (by omega) (by omega) HO.out.1
              rw [show ((a + bs : Nat) : Int) = (a : Int) + (bs : Int) by omega, show ((a + 2 * bs : Nat) : Int) = (a : Int) + 2 * (bs : Int) by omega] at hc
              have HS := Lib.hid hS
              clear hI hS
              go_wp2_with fail
              refine hc.mono ?_
              clear hc
              rintro e w2 ⟨rfl, ha1, ho1⟩
              have HS2 := Lib.hid (And.intro ha1 ho1)
              clear ha1 ho1
              go_wp2_with fail
              go_roundw
              case rel => exact ⟨a + 2 * bs, L2, by go_num, by go_num, hb, ⟨HS2.out.2, HS.out⟩, HA.out.trans HS2.out.1⟩
              case measure => first | (simp [intOf]; done) | (simp [intOf]; omega)
            · have hbI : ¬ (a : Int) + 2 * (bs : Int) ≤ (n : Int) := by omega
              obtain ⟨L2, hI, hI2, hS⟩ := HO.out.2.last (by omega) (by rw [HL.out]; exact hb)
              rw [HL.out] at hI hI2
              have HS := Lib.hid hS
              clear hS
              by_cases hm : a + bs < n
              · have hmI : (a : Int) + (bs : Int) < (n : Int) := by omega
                have hc := symMerge13 B off n cap hn (2 * bs) a (a + bs) n y L2 wp (by omega) (hI hm) (by omega) (by omega) HO.out.1
                rw [show ((a + bs : Nat) : Int) = (a : Int) + (bs : Int) by omega] at hc
                clear hI hI2
                go_wp2_with fail
                refine hc.mono ?_
                clear hc
                rintro e w2 ⟨rfl, ha1, ho1⟩
                have HS2 := Lib.hid (And.intro (HA.out.trans ha1) ho1)
                clear ha1 ho1
                go_wp2_with fail
                go_roundw
                case rel => exact ⟨2 * bs, L2, by go_num, by omega, by omega, ⟨HS2.out.2, HS.out⟩, HS2.out.1⟩
                case measure => first | (simp [intOf]; done) | (simp [intOf]; omega)
              · have hmI : ¬ (a : Int) + (bs : Int) < (n : Int) := by omega
                have HE := Lib.hid (hI2 hm)
                clear hI hI2
                go_wp2_with fail
                go_roundw
                case rel => exact ⟨2 * bs, L2, by go_num, by omega, by omega, ⟨by rw [HE.out]; exact HO.out.1, HS.out⟩, HA⟩
                case measure => first | (simp [intOf]; done) | (simp [intOf]; omega)
        · have hbnI : ¬ (bs : Int) < (n : Int) := by omega
          have HF := Lib.hid (HO.out.2.fin (by rw [HL.out]; omega))
          go_wp2_with fail
          go_end0
          exact ⟨rfl, HA.out, by rw [← HF.out]; exact HO.out.1⟩

set_option maxHeartbeats 400000 in
theorem sortStable13 (B off n cap : Nat) (l : List Pk) (hl : l.length = n) (hn : n ≤ 1000) (w : World) (h : PkO w B off l) :
    Calls Try.prog 90 #[.slice (some ⟨B, off, none⟩) n cap, .func (.func 91) #[] #[]] w (Sorts B off (isort l) w) := by
  have H := Lib.hid (And.intro hl h)
  clear hl h
  go_enter Try.func90, Try.ntmps90
  go_wp2_with fail
  refine (stable13 B off n cap l H.out.1 hn w H.out.2).mono ?_
  rintro e w1 ⟨rfl, ha1, ho1⟩
  have HS1 := Lib.hid (And.intro ha1 ho1)
  clear ha1 ho1
  go_wp2_with fail
  go_end0
  exact ⟨rfl, HS1.out.1, HS1.out.2⟩

end Go.Proofs.Ytknimlpdpgpliaa
