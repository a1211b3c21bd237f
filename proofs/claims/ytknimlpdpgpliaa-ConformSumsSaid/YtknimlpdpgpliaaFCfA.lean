/- An append that leaves the elder list as it was; admit of package conform. By the verifier's side. -/
import Derived.Test.YtknimlpdpgpliaaFCfX
import Derived.Test.YtknimlpdpgpliaaFRTrB
import Derived.Deep.DeepAppendRoom
namespace Go.Proofs.Ytknimlpdpgpliaa
open Go.RowKit
set_option linter.unusedSimpArgs false
set_option linter.unusedVariables false

theorem ownsP_below {w w' : World} {base : Nat} {v : Value} {k : Nat} {xs : List Value} {e : TypeId} {s : Nat} (h : w.ownsRow base e s v k xs) (ha : Below w.heap.size w w') : w'.ownsRow base e s v k xs := by
  obtain ⟨hl, hr⟩ := h
  refine ⟨hl, ?_⟩
  rcases hr with h0 | ⟨g, cap, cur, hv, hbase, hg, h1, h2, h3, h4⟩
  · exact .inl h0
  · have hlt : g < w.heap.size := (Array.getElem?_eq_some_iff.1 hg).1
    exact .inr ⟨g, cap, cur, hv, hbase, (ha.block g hlt).trans hg, h1, h2, h3, h4⟩
theorem OwnL.call {w wx w' : World} {v : Value} {l : List Pk} (h : OwnL w v l wx) (hb : Below wx.heap.size wx w') : OwnL w v l w' := ⟨ownsP_below h.1 hb, h.2.trans (hb.mono h.2.size)⟩
theorem OwnL.row {w wx : World} {v : Value} {l : List Pk} (h : OwnL w v l wx) (hn : l.length ≤ 1000000) (hb : ∀ q ∈ l, Pk64 q) : ∃ a cap, v = .slice a l.length cap ∧ PkR wx a l.length cap l := by
  obtain ⟨hl, a, c, hv, h1, h2, h3, h4⟩ := pkO_of_owns h.1
  refine ⟨a, c, hv, hl, h1, hn, h2, ?_, hb⟩
  rcases h4 with ⟨_, h0⟩ | ⟨g', ha, _, ho⟩
  · exact .inl ⟨h0, fun _ _ => trivial⟩
  · exact .inr ⟨g', 0, ha, ho.cells⟩
theorem okP_64 {q : Pk} (h : okP q = true) : Pk64 q := by
  have := (okP_iff q).1 h
  exact ⟨⟨by omega, by omega⟩, ⟨by omega, by omega⟩, ⟨by omega, by omega⟩⟩

theorem nextcap14 {n : Nat} (hn : n ≤ 200) : Builtin.nextslicecap (n + 1) n * 24 ≤ 281474976710656 := by
  unfold Builtin.nextslicecap
  split
  · omega
  · split
    · omega
    · omega

/-- One packet behind a list of one's own: the elder list still reads what it read. -/
theorem run_append_keep (base : Nat) (ty : TypeId) (v : Value) (l : List Pk) (q : Pk) (hl : l.length ≤ 200) (w : World) (ho : w.ownsRow base 76 3 v l.length (pkV l)) (hbase : base ≤ w.heap.size) (B : Nat) (c : Nat)
    (hq : w.cell? ⟨B, 0, none⟩ = some (.int .i64 q.f) ∧ w.cell? ⟨B, 1, none⟩ = some (.int .i64 q.t) ∧ w.cell? ⟨B, 2, none⟩ = some (.int .i64 q.s)) :
    ∃ v' w', (Builtin.append_ #[45, 45] ty #[v, .slice (some ⟨B, 0, none⟩) 1 c]).run Try.prog w = .ok v' w' ∧ w'.ownsRow base 76 3 v' (l.length + 1) (pkV (l ++ [q])) ∧ w'.ownsRow base 76 3 v l.length (pkV l) ∧ Below base w w' ∧ (∀ j, j < w.heap.size → ¬ v.ownBlock = some j → w'.heap[j]? = w.heap[j]?) := by
  obtain ⟨i0, hi, hz0, hz1, hz2⟩ := info_parts info_pk
  have hnews : ∀ j u, (pkV [q])[j]? = some u → w.cell? ((⟨B, 0, none⟩ : Addr).add j) = some u := fun j u hj => by
    have ea : ((⟨B, 0, none⟩ : Addr).add j) = ⟨B, j, none⟩ := by unfold Addr.add; split <;> simp_all
    rw [ea]
    have hj3 : j < 3 := (List.getElem?_eq_some_iff.1 hj).1
    rcases j with _ | _ | _ | j
    · cases hj; exact hq.1
    · cases hj; exact hq.2.1
    · cases hj; exact hq.2.2
    · omega
  have hrun := run_append_own (P := Try.prog) w base 45 ty 76 i0 (.agg #[.int .i64 0, .int .i64 0, .int .i64 0]) 3 24 Try.underlying45 hi hz0 hz1 hz2 rfl (by decide) v l.length (pkV l) ho ⟨B, 0, none⟩ 1 c (pkV [q]) rfl hnews (pkV_one [q]) (by unfold maxLen; omega) (by omega) hbase
  obtain ⟨v', w', hr, hown, hgrow, hiff⟩ := hrun
  rw [← pkV_append] at hown
  have hrow : ∀ j, v.ownBlock = some j → base ≤ j := fun j hj => (ho.lt j hj).1
  have hB : Below base w w' := grownBy_below hgrow hrow hbase
  refine ⟨v', w', hr, hown, ?_, hB, fun j hj hne => hgrow.block j hj (fun e => hne e.symm)⟩
  obtain ⟨hl3, hcase⟩ := id ho
  rcases hcase with ⟨rfl, h0⟩ | ⟨g, cap, cur, rfl, hbg, hg, hnc, hcm, hsz, htake⟩
  · have : l = [] := List.length_eq_zero_iff.1 h0
    subst this
    exact World.ownsRow_nil _ _ _ _
  · by_cases hroom : l.length + 1 ≤ cap
    · obtain ⟨w2, hr2, hown2, _⟩ := run_append_own_spare (P := Try.prog) w base 45 ty 76 i0 3 Try.underlying45 hi hz1 g l.length cap (pkV l) ho ⟨B, 0, none⟩ 1 c (pkV [q]) rfl hnews (pkV_one [q]) hroom
      rw [hr] at hr2
      injection hr2 with e1 e2
      subst e2
      obtain ⟨_, hc2⟩ := hown2
      rcases hc2 with ⟨he, _⟩ | ⟨g2, cap2, cur2, he, hbg2, hg2, hnc2, hcm2, hsz2, htake2⟩
      · cases he
      · cases he
        refine ⟨hl3, .inr ⟨g, cap, cur2, rfl, hbg, hg2, hnc, hcm, hsz2, ?_⟩⟩
        have : (cur2.toList.take ((l.length + 1) * 3)).take (l.length * 3) = pkV l := by
          rw [htake2, List.take_left' (by rw [pkV_length])]
        rw [List.take_take] at this
        rwa [show min (l.length * 3) ((l.length + 1) * 3) = l.length * 3 by omega] at this
    · obtain rfl : cap = l.length := by omega
      have hr2 := run_append_grow (P := Try.prog) w 45 ty 76 i0 _ Try.underlying45 hi hz0 ⟨g, 0, none⟩ l.length l.length (pkV l) (by rw [hz1, pkV_length]) (ho.cells rfl) ⟨B, 0, none⟩ 1 c (pkV [q]) (by rw [hz1]; rfl) hnews (by omega) (by omega) (by rw [hz2]; exact nextcap14 (by omega))
      rw [hr] at hr2
      injection hr2 with e1 e2
      subst e2
      exact (show (w.drew).ownsRow base 76 3 _ l.length (pkV l) from ho).alloc _
end Go.Proofs.Ytknimlpdpgpliaa
