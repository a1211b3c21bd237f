/- Contracts of the document's own texts: Decimal, Format, digits, Parse. By the verifier's side. -/
import Derived.Test.YtkdpglpdcjhhkaaDoorRefOps
import Derived.Test.YtkdpglpdcjhhkaaDoorTextMath
namespace Go.Proofs.YtkdpglpdcjhhkaaDoor
open Go.RowKit
set_option linter.unusedSimpArgs false

theorem ba_snoc (l : List UInt8) (e : ByteArray) (c : UInt8) (h : e = ⟨#[c]⟩) : (⟨l.toArray⟩ ++ e : ByteArray) = ⟨(l ++ [c]).toArray⟩ := by
  subst h
  apply ByteArray.ext
  simp [ByteArray.data_append]
theorem ba_cons (l : List UInt8) (c : UInt8) : (⟨#[c]⟩ ++ ⟨l.toArray⟩ : ByteArray) = ⟨(c :: l).toArray⟩ := by
  apply ByteArray.ext
  simp [ByteArray.data_append]

set_option maxHeartbeats 800000 in
theorem dec_nat (k : Nat) : ∀ (u : Nat) (w : World), u < k → u < 4611686018427387904 →
    Calls Tryd.prog 44 #[.int .i64 u] w (Drew (.string ⟨(Lib.decDigits u).toArray⟩) w) := by
  induction k with
  | zero => intro u w h; omega
  | succ k ih =>
    intro u w hk hu
    have IH := Lib.hid ih
    clear ih
    by_cases h : u < 10
    · clear hu hk
      have hx := h
      rcases (show u = 0 ∨ u = 1 ∨ u = 2 ∨ u = 3 ∨ u = 4 ∨ u = 5 ∨ u = 6 ∨ u = 7 ∨ u = 8 ∨ u = 9 by omega) with rfl | rfl | rfl | rfl | rfl | rfl | rfl | rfl | rfl | rfl
      all_goals
        go_enter Tryd.func44, Tryd.ntmps44
        go_wp2_with fail
        go_ret
        refine ⟨?_, 0, rfl⟩
        rw [digit _ hx]
        rfl
    · have hx : u % 10 < 10 := Nat.mod_lt _ (by decide)
      have hr := Lib.hid (IH.out (u / 10) · (by omega) (by omega))
      have hd := Lib.hid (decDigits_step u h)
      have hu0 : (0 : Int) ≤ (u : Int) := by omega
      have hu1 : (u : Int) ≤ 4611686018427387904 := by omega
      have hl : (Lib.decDigits (u / 10)).length ≤ 20 := by rw [Lib.decDigits_length]; exact Lib.nDigits_le20 _ (by omega)
      clear hu hk
      rcases (show u % 10 = 0 ∨ u % 10 = 1 ∨ u % 10 = 2 ∨ u % 10 = 3 ∨ u % 10 = 4 ∨ u % 10 = 5 ∨ u % 10 = 6 ∨ u % 10 = 7 ∨ u % 10 = 8 ∨ u % 10 = 9 by omega) with c | c | c | c | c | c | c | c | c | c
      all_goals
        have hm : ((u : Nat) : Int).tmod 10 = ((u % 10 : Nat) : Int) := by rw [Int.tmod_eq_emod_of_nonneg hu0]; rfl
        rw [c] at hm
        have HC := Lib.hid c
        clear c
        go_enter Tryd.func44, Tryd.ntmps44
        go_wp2_with fail
        go_quiet ((go_at_call 44; exact Calls.quiet_of (hr.out _)))
        go_wp2_with fail
        go_ret
        refine ⟨?_, _, rfl⟩
        rw [hd.out, HC.out]
        exact congrArg (fun b => Ending.returned (.string b)) (ba_snoc _ _ _ (by rfl))

set_option maxHeartbeats 800000 in
theorem dec_any (n : Int) (h1 : -1152921504606846976 ≤ n) (h2 : n ≤ 1152921504606846976) (w : World) :
    Calls Tryd.prog 44 #[.int .i64 n] w (Drew (.string ⟨(Lib.itoa n).toArray⟩) w) := by
  by_cases h : n < 0
  · have e : Lib.itoa n = 45 :: Lib.decDigits n.natAbs := by unfold Lib.itoa; rw [if_pos h]
    rw [e]
    obtain ⟨u, hu⟩ := Int.eq_ofNat_of_zero_le (show 0 ≤ -n by omega)
    obtain rfl : n = -(u : Int) := by omega
    have eu : (-(u : Int)).natAbs = u := by omega
    rw [eu]
    have HD := Lib.hid (dec_nat (u + 1) u · (Nat.lt_succ_self _) (by omega))
    have hl : (Lib.decDigits u).length ≤ 20 := by rw [Lib.decDigits_length]; exact Lib.nDigits_le20 _ (by omega)
    clear hu eu e
    go_enter Tryd.func44, Tryd.ntmps44
    go_wp2_with fail
    refine (HD.out _).mono ?_
    rintro e w1 ⟨rfl, m, rfl⟩
    go_wp2_with fail
    go_ret
    exact ⟨congrArg (fun b => Ending.returned (.string b)) (ba_cons _ _), m, rfl⟩
  · have e : Lib.itoa n = Lib.decDigits n.toNat := by unfold Lib.itoa; rw [if_neg h]
    rw [e]
    obtain ⟨u, rfl⟩ := Int.eq_ofNat_of_zero_le (show 0 ≤ n by omega)
    exact dec_nat (u + 1) u w (Nat.lt_succ_self _) (by omega)

theorem ba3' (a b : List UInt8) : (({ data := a.toArray } ++ { data := #[47] }) ++ { data := b.toArray } : ByteArray) = ⟨(a ++ 47 :: b).toArray⟩ := by
  apply ByteArray.ext
  simp [ByteArray.data_append]

set_option maxHeartbeats 800000 in
theorem rformat_all (n d : Int) (w : World) : Calls Tryd.prog 17 #[.agg #[.int .i64 n, .int .i64 d]] w (Says (.string ⟨(formatL n d).toArray⟩) w) := by
  by_cases h : okF n d = true
  · have H := Lib.hid h
    have hb := (okF_iff n d).1 h
    have n1 : -1152921504606846976 ≤ n := by omega
    have n2 : n ≤ 1152921504606846976 := by omega
    have d1 : -1152921504606846976 ≤ d := by omega
    have d2 : d ≤ 1152921504606846976 := by omega
    have l1 : (Lib.itoa n).length ≤ 21 := Lib.itoa_length_le n (by omega) (by omega)
    have l2 : (Lib.itoa d).length ≤ 21 := Lib.itoa_length_le d (by omega) (by omega)
    clear h hb
    by_cases h1 : d = 1
    · subst h1
      have HF : Hid (formatL n 1 = Lib.itoa n) := Lib.hid (by unfold formatL; rw [if_pos H.out, if_pos rfl])
      go_enter Tryd.func17, Tryd.ntmps17
      go_wp2_with fail
      refine (rvalid_any n 1 _ H.out _).mono ?_
      rintro e w1 ⟨rfl, hb⟩
      obtain ⟨a0, a1, _, _⟩ := (Box.new w n 1 23).below hb
      go_wp2_with fail
      refine (dec_any n n1 n2 _).mono ?_
      rintro e w2 ⟨rfl, m, rfl⟩
      go_wp2_with fail
      go_ret
      exact ⟨by rw [HF.out]; rfl, (one1 hb).drewN _⟩
    · have hd1 : (d == 1) = false := by simpa using h1
      have HF : Hid (formatL n d = Lib.itoa n ++ 47 :: Lib.itoa d) := Lib.hid (by unfold formatL; rw [if_pos H.out, if_neg h1])
      clear h1
      go_enter Tryd.func17, Tryd.ntmps17
      go_wp2_with fail
      refine (rvalid_any n d _ H.out _).mono ?_
      rintro e w1 ⟨rfl, hb⟩
      obtain ⟨a0, a1, _, _⟩ := (Box.new w n d 23).below hb
      go_wp2_with fail
      go_quiet ((go_at_call 44; exact Calls.quiet_of (dec_any _ (by assumption) (by assumption) _)))
      go_wp2_with fail
      go_ret
      exact ⟨by rw [HF.out, ← ba3']; rfl, (one1 hb).drewN _⟩
  · have H := Lib.hid (show okF n d = false by simpa using h)
    have HF : Hid (formatL n d = []) := Lib.hid (by unfold formatL; rw [if_neg h])
    clear h
    go_enter Tryd.func17, Tryd.ntmps17
    go_wp2_with fail
    refine (rvalid_any n d _ H.out _).mono ?_
    rintro e w1 ⟨rfl, hb⟩
    go_wp2_with fail
    go_ret
    exact ⟨by rw [HF.out]; rfl, one1 hb⟩

/-- What digits seem to say. -/
def digitsF (acc : Nat) : List UInt8 → Nat
  | [] => acc
  | c :: r => if c.toNat < 48 ∨ 57 < c.toNat ∨ 1073741824 < acc then 0 else digitsF (10 * acc + (c.toNat - 48)) r

theorem drop_at (s : ByteArray) (k : Nat) (h : k < s.size) : s.data.toList.drop k = s[k] :: s.data.toList.drop (k + 1) :=
  List.drop_eq_getElem_cons (show k < s.data.toList.length from by rw [Array.length_toList]; exact h)

set_option maxHeartbeats 800000 in
theorem digits_any (s : ByteArray) (hs : s.size ≤ 140737488355328) (w : World) :
    Calls Tryd.prog 50 #[.string s] w fun e w' => e = .returned (.int .i64 (digitsF 0 s.data.toList : Nat)) ∧ w' = w := by
  obtain ⟨R, hR⟩ : ∃ R, digitsF 0 s.data.toList = R := ⟨_, rfl⟩
  rw [hR]
  have HR := Lib.hid hR
  clear hR
  go_enter Tryd.func50, Tryd.ntmps50
  go_wp2_with fail
  go_loop [3, 4] (fun va vi => ∃ acc k : Nat, va = .int .i64 acc ∧ vi = .int .i64 k ∧ k ≤ s.size ∧ acc ≤ 20000000000 ∧ Hid (digitsF acc (s.data.toList.drop k) = R)) (fun _ vi => s.size - (intOf vi).toNat)
  case atStart => exact ⟨0, 0, rfl, rfl, Nat.zero_le _, by omega, HR⟩
  case round =>
    obtain ⟨acc, k, rfl, rfl, hk, ha, HD⟩ := hrel
    by_cases hlt : k < s.size
    · have hd := drop_at s k hlt
      have hstep := HD.out
      rw [hd] at hstep
      unfold digitsF at hstep
      clear hd HD
      obtain ⟨c, hc⟩ : ∃ c : Nat, s[k].toNat = c := ⟨_, rfl⟩
      rw [hc] at hstep
      have hc2 : c < 256 := by rw [← hc]; exact s[k].toNat_lt
      by_cases k1 : c < 48 ∨ 57 < c ∨ 1073741824 < acc
      · rw [if_pos k1] at hstep
        subst hstep
        go_wp2_with fail
        all_goals (go_ret; exact ⟨rfl, rfl⟩)
      · rw [if_neg k1] at hstep
        have HS := Lib.hid hstep
        clear hstep
        go_wp2_with fail
        go_round
        case rel => exact ⟨10 * acc + (c - 48), k + 1, congrArg (Value.int IntKind.i64) (by omega), congrArg (Value.int IntKind.i64) (by omega), by omega, by omega, HS⟩
        case measure => simp [intOf]; omega
    · obtain rfl : k = s.size := by omega
      have e : s.data.toList.drop s.size = [] := List.drop_eq_nil_of_le (Nat.le_of_eq Array.length_toList)
      have h2 := HD.out
      rw [e] at h2
      have h3 : acc = R := h2
      subst h3
      clear e h2 HD
      go_wp2_with fail
      go_ret
      exact ⟨rfl, rfl⟩

/-- The two parts of a text: what stands ahead of the first slash and behind it; "1" behind it if there is none. -/
def partsL (l : List UInt8) : List UInt8 × List UInt8 := if (Lib.cut l [47]).2.2 then ((Lib.cut l [47]).1, (Lib.cut l [47]).2.1) else (l, [49])
def seemsN (l : List UInt8) : Int := if l.head? = some 45 then -(digitsF 0 l.tail : Int) else digitsF 0 l

/-- What the document's Parse gives. -/
def rparseL (l : List UInt8) : Int × Int × Int :=
  if okF (seemsN (partsL l).1) (digitsF 0 (partsL l).2) = true ∧ formatL (seemsN (partsL l).1) (digitsF 0 (partsL l).2) = l then (seemsN (partsL l).1, digitsF 0 (partsL l).2, 0) else (0, 0, 4)

def decVal (acc : Nat) (l : List UInt8) : Nat := l.foldl (fun a c => 10 * a + (c.toNat - 48)) acc

theorem le_decVal : ∀ (l : List UInt8) (acc : Nat), acc ≤ decVal acc l
  | [], _ => Nat.le_refl _
  | c :: r, acc => Nat.le_trans (by omega) (le_decVal r (10 * acc + (c.toNat - 48)))

theorem digitsF_val : ∀ (l : List UInt8) (acc : Nat), (∀ c ∈ l, IsDigit c) → decVal acc l ≤ 1073741824 → digitsF acc l = decVal acc l
  | [], _, _, _ => rfl
  | c :: r, acc, hd, hv => by
    have hc := hd c (List.mem_cons_self ..)
    unfold IsDigit at hc
    have h1 : decVal acc (c :: r) = decVal (10 * acc + (c.toNat - 48)) r := rfl
    rw [h1] at hv ⊢
    have h2 := le_decVal r (10 * acc + (c.toNat - 48))
    unfold digitsF
    rw [if_neg (by omega)]
    exact digitsF_val r _ (fun x hx => hd x (List.mem_cons_of_mem _ hx)) hv

theorem decVal_digits (u : Nat) : decVal 0 (Lib.decDigits u) = u := by
  induction u using Nat.strongRecOn with
  | ind u ih =>
    by_cases h : u < 10
    · rw [digit u h]
      show 10 * 0 + ((UInt8.ofNat (48 + u)).toNat - 48) = u
      rw [digit_byte u h]
      omega
    · rw [decDigits_step u h]
      unfold decVal
      rw [List.foldl_append]
      have := ih (u / 10) (by omega)
      unfold decVal at this
      rw [this]
      show 10 * (u / 10) + ((UInt8.ofNat (48 + u % 10)).toNat - 48) = u
      rw [digit_byte _ (Nat.mod_lt _ (by decide))]
      omega

theorem digits_back (u : Nat) (hu : u ≤ 1073741824) : digitsF 0 (Lib.decDigits u) = u := by
  have h := decVal_digits u
  rw [digitsF_val _ 0 (decDigits_digits u) (by omega), h]

theorem seems_back (n : Int) (h1 : -1073741824 ≤ n) (h2 : n ≤ 1073741824) : seemsN (Lib.itoa n) = n := by
  unfold seemsN Lib.itoa
  by_cases h : n < 0
  · rw [if_pos h]
    rw [if_pos (show (45 :: Lib.decDigits n.natAbs).head? = some 45 from rfl)]
    show -((digitsF 0 (Lib.decDigits n.natAbs) : Nat) : Int) = n
    rw [digits_back _ (by omega)]
    omega
  · rw [if_neg h]
    have hd := decDigits_digits n.toNat
    have hb := digits_back n.toNat (by omega)
    cases hl : Lib.decDigits n.toNat with
    | nil => exact absurd hl (decDigits_ne _)
    | cons c r =>
      rw [hl] at hd hb
      have hc := hd c (List.mem_cons_self ..)
      unfold IsDigit at hc
      rw [if_neg (by
        intro e
        have e2 : c = 45 := by simpa using e
        rw [e2] at hc
        revert hc
        decide), hb]
      omega

theorem rparse_format (n d : Int) (h : okF n d = true) : rparseL (formatL n d) = (n, d, 0) := by
  have hb := (okF_iff n d).1 h
  have hn := seems_back n (by omega) (by omega)
  have hd := digits_back d.toNat (by omega)
  have key : seemsN (partsL (formatL n d)).1 = n ∧ ((digitsF 0 (partsL (formatL n d)).2 : Nat) : Int) = d := by
    by_cases h1 : d = 1
    · subst h1
      have e : formatL n 1 = Lib.itoa n := by unfold formatL; rw [if_pos h, if_pos rfl]
      have hc := cut_none _ (itoa_plain n)
      unfold partsL
      rw [e, hc]
      exact ⟨hn, by show ((digitsF 0 [49] : Nat) : Int) = 1; decide⟩
    · have e : formatL n d = Lib.itoa n ++ 47 :: Lib.itoa d := by unfold formatL; rw [if_pos h, if_neg h1]
      have hc := cut_slash _ (Lib.itoa d) (itoa_plain n)
      unfold partsL
      rw [e, hc]
      refine ⟨hn, ?_⟩
      show ((digitsF 0 (Lib.itoa d) : Nat) : Int) = d
      unfold Lib.itoa
      rw [if_neg (by omega), hd]
      omega
  unfold rparseL
  rw [key.1, key.2, if_pos ⟨h, rfl⟩]

theorem rparse_cases (l : List UInt8) : rparseL l = (0, 0, 4) ∨ ∃ n d, okF n d = true ∧ formatL n d = l ∧ rparseL l = (n, d, 0) := by
  unfold rparseL
  split
  · rename_i h
    exact Or.inr ⟨_, _, h.1, h.2, rfl⟩
  · exact Or.inl rfl

theorem rparseL_def (l : List UInt8) (n d : Int) (hn : seemsN (partsL l).1 = n) (hd : ((digitsF 0 (partsL l).2 : Nat) : Int) = d) : rparseL l = if okF n d = true ∧ formatL n d = l then (n, d, 0) else (0, 0, 4) := by
  subst hn hd; rfl

/-- Both readers give the same. -/
theorem rparse_eq (l : List UInt8) : rparseL l = parseL l := by
  rcases rparse_cases l with h | ⟨n, d, h1, h2, h3⟩
  · rcases hp : parseL l with ⟨n, d, e⟩
    rcases format_parse l n d e hp with ⟨rfl, rfl, rfl⟩ | ⟨rfl, ho, hf⟩
    · exact h
    · have := rparse_format n d ho
      rw [hf, h] at this
      simp at this
  · rw [h3, ← h2, parse_format n d h1]

end Go.Proofs.YtkdpglpdcjhhkaaDoor
