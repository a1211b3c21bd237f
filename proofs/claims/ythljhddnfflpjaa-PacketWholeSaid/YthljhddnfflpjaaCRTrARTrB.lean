/- The document's Bytes. By the verifier's side. -/
import Derived.Test.YthljhddnfflpjaaCTrX
import Derived.Test.YthljhddnfflpjaaCTrT
namespace Go.Proofs.Ythljhddnfflpjaa
open Go.RowKit
set_option linter.unusedSimpArgs false
set_option linter.unusedVariables false

theorem ofFlow_iff (fl : Int) (q : Pk) : ofFlow fl q = true ↔ (-1 ≤ fl ∧ (fl = -1 ∨ q.f = fl)) := by
  unfold ofFlow; simp only [Bool.and_eq_true, Bool.or_eq_true, decide_eq_true_eq]
end Go.Proofs.Ythljhddnfflpjaa

namespace Go.Proofs.Ythljhddnfflpjaa
open Go.RowKit
set_option linter.unusedSimpArgs false
set_option linter.unusedVariables false

theorem pkR_one (w : World) (q : Pk) (hq : Pk64 q) : PkR (w.alloc (.cells #[.int .i64 q.f, .int .i64 q.t, .int .i64 q.s] 94)) (some ⟨w.heap.size, 0, none⟩) 1 1 [q] :=
  pkR_new (l := [q]) (by simp) (fun x hx => by rw [List.mem_singleton.1 hx]; exact hq) (fun i x hx => by
    rcases i with _ | i
    · cases hx; exact ⟨rfl, rfl, rfl⟩
    · cases hx)
/-- A list of its own is handed back. -/
def GivesOwn (l : List Pk) (w : World) (e : Ending) (w' : World) : Prop :=
  ∃ a n cap, e = .returned (.slice a n cap) ∧ Below w.heap.size w w' ∧ PkR w' a n cap l ∧ ∀ x, a = some x → w.heap.size ≤ x.block
/-- A list that grows behind a world. -/
def OwnL (w : World) (v : Value) (l : List Pk) (wx : World) : Prop := wx.ownsRow w.heap.size 94 3 v l.length (pkV l) ∧ Below w.heap.size w wx
theorem OwnL.gives {w wx : World} {v : Value} {l : List Pk} (h : OwnL w v l wx) (hn : l.length ≤ 1000000) (hb : ∀ q ∈ l, Pk64 q) : GivesOwn l w (.returned v) wx := by
  obtain ⟨hl, a, c, hv, h1, h2, h3, h4⟩ := pkO_of_owns h.1
  subst hv
  refine ⟨a, _, c, rfl, h.2, ⟨hl, h1, hn, h2, ?_, hb⟩, h3⟩
  rcases h4 with ⟨_, h0⟩ | ⟨g', ha, _, ho⟩
  · exact .inl ⟨h0, fun _ _ => trivial⟩
  · exact .inr ⟨g', 0, ha, ho.cells⟩
theorem OwnL.push {w wx w' : World} {v v' : Value} {l r : List Pk} {m : Nat} (h : OwnL w v l wx) (hm : r.length = m) (ho : w'.ownsRow w.heap.size 94 3 v' (l.length + m) (pkV (l ++ r))) (hb : Below w.heap.size wx w') : OwnL w v' (l ++ r) w' :=
  ⟨by rw [List.length_append, hm]; exact ho, h.2.trans hb⟩
theorem OwnL.nil (w : World) : OwnL w (.slice none 0 0) [] w := ⟨World.ownsRow_nil _ _ _ _, Below.refl _ _⟩
theorem OwnL.alloc {w wx : World} {v : Value} {l : List Pk} (h : OwnL w v l wx) (o : Obj) : OwnL w v l (wx.alloc o) := ⟨h.1.alloc o, h.2.alloc h.2.size o⟩
theorem OwnL.drewN {w wx : World} {v : Value} {l : List Pk} (h : OwnL w v l wx) (m : Nat) : OwnL w v l (wx.drewN m) := ⟨h.1, h.2.drewN m⟩
theorem sel_len (fl : Int) (l : List Pk) (k : Nat) : (sel fl (l.take k)).length ≤ k := Nat.le_trans (sel_le fl _) (by rw [List.length_take]; omega)

set_option maxRecDepth 100000 in
set_option maxHeartbeats 3200000 in
theorem rselect13 (a : Option Addr) (n cap : Nat) (l : List Pk) (fl : Int) (w : World) (h : PkR w a n cap l) :
    Calls Try.prog 85 #[.slice a n cap, .int .i64 fl] w (GivesOwn (sel fl l) w) := by
  have H := Lib.hid h
  have hsm := h.sm
  clear h
  go_enter Try.func85, Try.ntmps85
  go_wp2_with fail
  go_loopw [6, 5] (fun s6 s5 wx => ∃ k : Nat, s6 = .int .i64 k ∧ k ≤ n ∧ Hid (OwnL w s5 (sel fl (l.take k)) wx)) (fun s6 _ _ => n - (intOf s6).toNat)
  case atStart => exact ⟨0, by go_num, Nat.zero_le _, OwnL.nil w⟩
  case round =>
    obtain ⟨k, rfl, hk, HO⟩ := hrel
    obtain ⟨wk, rfl⟩ : ∃ u : World, u = wr := ⟨_, rfl⟩
    obtain ⟨s5, rfl⟩ : ∃ u : Value, u = u5 := ⟨_, rfl⟩
    by_cases hlt : k < n
    · have hlI : (k : Int) < (n : Int) := by omega
      obtain ⟨B, off, q, ha, hcs, hq, hbd⟩ := (H.out.under HO.out.2).at hlt
      obtain ⟨c0, c1, c2⟩ := hcs k q hq
      have HQ := Lib.hid (And.intro hq hbd)
      have hsl := sel_len fl l k
      clear hcs hq hbd
      subst ha
      by_cases e2 : -1 ≤ fl
      · by_cases e3 : fl = -1
        · subst e3
          go_wp2_with (at_builtin; (refine wpList_append_pk rfl _ _ rfl w.heap.size _ _ (sel (-1) (l.take k)) rfl (HO.out.alloc _).1 (some ⟨wk.heap.size, 0, none⟩) 1 1 [q] rfl (pkR_one wk q HQ.out.2) (by omega) (HO.out.alloc _).2.size ?_))
          intro v' w' ho' hb'
          have HN := Lib.hid (show OwnL w v' (sel (-1) (l.take (k + 1))) w' from by
            rw [sel_take HQ.out.1, if_pos ((ofFlow_iff (-1) q).2 ⟨by omega, .inl rfl⟩)]
            exact (HO.out.alloc _).push rfl ho' hb')
          clear ho' hb' c0 c1 c2
          go_wp2_with fail
          go_roundw
          case rel => exact ⟨k + 1, by go_num, by omega, HN⟩
          case measure => first | (simp [intOf]; done) | (simp [intOf]; omega)
        · by_cases e4 : q.f = fl
          · have hb4 : (q.f == fl) = true := by simp [e4]
            have hb3 : (fl == -1) = false := by simp [e3]
            have E4 := Lib.hid e4
            clear e4
            go_wp2_with (at_builtin; (refine wpList_append_pk rfl _ _ rfl w.heap.size _ _ (sel fl (l.take k)) rfl (HO.out.alloc _).1 (some ⟨wk.heap.size, 0, none⟩) 1 1 [q] rfl (pkR_one wk q HQ.out.2) (by omega) (HO.out.alloc _).2.size ?_))
            intro v' w' ho' hb'
            have HN := Lib.hid (show OwnL w v' (sel fl (l.take (k + 1))) w' from by
              rw [sel_take HQ.out.1, if_pos ((ofFlow_iff fl q).2 ⟨by omega, .inr E4.out⟩)]
              exact (HO.out.alloc _).push rfl ho' hb')
            clear ho' hb' c0 c1 c2
            go_wp2_with fail
            go_roundw
            case rel => exact ⟨k + 1, by go_num, by omega, HN⟩
            case measure => first | (simp [intOf]; done) | (simp [intOf]; omega)
          · have hb4 : (q.f == fl) = false := by simp [e4]
            have HN := Lib.hid (show OwnL w s5 (sel fl (l.take (k + 1))) wk from by
              rw [sel_take HQ.out.1, if_neg (fun c => by have := (ofFlow_iff fl q).1 c; omega)]
              exact HO.out)
            go_wp2_with fail
            go_roundw
            case rel => exact ⟨k + 1, by go_num, by omega, HN⟩
            case measure => first | (simp [intOf]; done) | (simp [intOf]; omega)
      · clear c0 c1 c2
        have HN := Lib.hid (show OwnL w s5 (sel fl (l.take (k + 1))) wk from by
          rw [sel_take HQ.out.1, if_neg (fun c => by have := (ofFlow_iff fl q).1 c; omega)]
          exact HO.out)
        go_wp2_with fail
        go_roundw
        case rel => exact ⟨k + 1, by go_num, by omega, HN⟩
        case measure => first | (simp [intOf]; done) | (simp [intOf]; omega)
    · obtain rfl : k = n := by omega
      have hlI : ¬ (k : Int) < (k : Int) := by omega
      go_wp2_with fail
      go_ret
      have hr := HO.out
      rw [← H.out.len, List.take_length] at hr
      exact hr.gives (Nat.le_trans (sel_le fl l) (by rw [H.out.len]; exact hsm)) (fun q hq => H.out.bd q (List.mem_filter.1 hq).1)

end Go.Proofs.Ythljhddnfflpjaa
