/- The document's Order: a region that draws its order with two appends in it, under an invariant. By the verifier's side. -/
import Derived.Test.YtknimlpdpgpliaaTRTrH
import Derived.Test.YtknimlpdpgpliaaProg
import Derived.WalkKit
import Derived.Deep.RegionHeld3
import Derived.StillTail
import Derived.Deep.DrawnRows
import Derived.Test.YtknimlpdpgpliaaTRegIRegN
namespace Go.Proofs.Ytknimlpdpgpliaa
open Go.RowKit Go.Shelf
set_option linter.unusedSimpArgs false
set_option linter.unusedVariables false

/-- The place of a packet: what lies from m on is later. -/
def AllLater (L : List Pk) (t : Int) (m : Nat) : Prop := ∀ j y, L[j]? = some y → m ≤ j → t < y.t
theorem AllLater.start (L : List Pk) (t : Int) : AllLater L t L.length := fun j y hy hj => by
  have := (List.getElem?_eq_some_iff.1 hy).1; omega
theorem AllLater.step {L : List Pk} {t : Int} {m : Nat} {y : Pk} (h : AllLater L t (m + 1)) (hy : L[m]? = some y) (ht : t < y.t) : AllLater L t m := fun j z hz hj => by
  by_cases e : j = m
  · subst e; rw [hy] at hz; cases hz; exact ht
  · exact h j z hz (by omega)
/-- The packet goes in at m. -/
theorem ins_place {q : Pk} : ∀ (L : List Pk) (m : Nat), Asc L → m ≤ L.length → AllLater L q.t m → (m = 0 ∨ ∃ y, L[m - 1]? = some y ∧ ¬ q.t < y.t) → ins q L = L.take m ++ [q] ++ L.drop m
  | [], m, _, hm, _, _ => by
    obtain rfl : m = 0 := by simpa using hm
    rfl
  | x :: r, 0, ha, _, hl, _ => by
    have h := hl 0 x rfl (Nat.le_refl _)
    unfold ins
    rw [if_pos h]; rfl
  | x :: r, m + 1, ha, hm, hl, hp => by
    obtain ⟨hx, har⟩ := asc_cons.1 ha
    have hnx : ¬ q.t < x.t := by
      rcases hp with h0 | ⟨y, hy, hn⟩
      · omega
      · rw [Nat.add_sub_cancel] at hy
        rcases m with _ | m
        · cases hy; exact hn
        · have := hx y (List.mem_of_getElem? (i := m) hy); omega
    unfold ins
    rw [if_neg hnx, ins_place r m har (by simpa using hm) (fun j y hy hj => hl (j + 1) y hy (by omega)) (by
      rcases m with _ | m
      · exact .inl rfl
      · rcases hp with h0 | ⟨y, hy, hn⟩
        · omega
        · exact .inr ⟨y, hy, hn⟩)]
    rfl
theorem isort_at {l : List Pk} {i m : Nat} {q : Pk} (hq : l[i]? = some q) (hm : m ≤ i) (hl : AllLater (isort (l.take i)) q.t m) (hp : m = 0 ∨ ∃ y, (isort (l.take i))[m - 1]? = some y ∧ ¬ q.t < y.t) :
    isort (l.take (i + 1)) = (isort (l.take i)).take m ++ [q] ++ (isort (l.take i)).drop m := by
  have hi := (List.getElem?_eq_some_iff.1 hq).1
  rw [List.take_add_one, hq, Option.toList_some, isort_snoc]
  exact ins_place _ m (isort_asc _) (by rw [isort_length, List.length_take]; omega) hl hp
theorem PkR.drop {w : World} {B off n cap : Nat} {l : List Pk} (h : PkR w (some ⟨B, off, none⟩) n cap l) (m : Nat) (hm : m ≤ n) : PkR w (some ⟨B, off + m * 3, none⟩) (n - m) (cap - m) (l.drop m) := by
  refine ⟨by rw [List.length_drop, h.len], by have := h.le; omega, by have := h.sm; omega, by have := h.cm; omega, ?_, fun q hq => h.bd q (List.mem_of_mem_drop hq)⟩
  by_cases e : n - m = 0
  · exact .inl ⟨e, fun _ _ => trivial⟩
  · rcases h.place with ⟨h0, _⟩ | ⟨B', off', ha, hc⟩
    · omega
    · cases ha
      refine .inr ⟨B, off + m * 3, rfl, fun i q hq => ?_⟩
      rw [List.getElem?_drop] at hq
      have e3 : off + (m + i) * 3 = off + m * 3 + i * 3 := by omega
      have := hc (m + i) q hq
      rw [e3] at this
      exact this
theorem PkR.take {w : World} {a : Option Addr} {n cap : Nat} {l : List Pk} (h : PkR w a n cap l) (m : Nat) (hm : m ≤ n) : PkR w a m cap (l.take m) := by
  refine ⟨by rw [List.length_take, h.len]; omega, by have := h.le; omega, by have := h.sm; omega, h.cm, ?_, fun q hq => h.bd q (List.mem_of_mem_take hq)⟩
  rcases h.place with ⟨h0, _⟩ | ⟨B', off', ha, hc⟩
  · exact .inl ⟨by omega, fun _ _ => trivial⟩
  · refine .inr ⟨B', off', ha, fun i q hq => ?_⟩
    rw [List.getElem?_take] at hq
    by_cases c : i < m
    · rw [if_pos c] at hq; exact hc i q hq
    · rw [if_neg c] at hq; cases hq
theorem drewN_two (w : World) (a : Nat) : ∀ b : Nat, (w.drewN a).drewN b = w.drewN (a + b) := fun b => by
  show World.mk .. = World.mk ..
  simp [World.drewN, Nat.add_assoc]
theorem OwnL.reads {w wx : World} {v : Value} {l : List Pk} (h : OwnL w v l wx) (hn : l.length ≤ 1000000) (hb : ∀ q ∈ l, Pk64 q) : ∃ a c, v = .slice a l.length c ∧ PkR wx a l.length c l := by
  obtain ⟨hl, a, c, hv, h1, h2, h3, h4⟩ := pkO_of_owns h.1
  refine ⟨a, c, hv, hl, h1, hn, h2, ?_, hb⟩
  rcases h4 with ⟨_, h0⟩ | ⟨g', ha, _, ho⟩
  · exact .inl ⟨h0, fun _ _ => trivial⟩
  · exact .inr ⟨g', 0, ha, ho.cells⟩

theorem wpAny_invT {P : Program} {ops : Array Oper} {Q : Exit → Act → World → Prop} {md : Region.Mode} (I : Array Bool → Act → World → Prop) (hB : downB md ops = true)
    (hstep : ∀ (i : Nat) (o : Oper), ops[i]? = some o → ∀ (listed : Array Bool) (a : Act) (w : World), listed.getD i true = false → (∀ e ∈ o.after, Region.binds md e = true → listed.getD e.on false = true) → I listed a w →
      ∀ K' : Act → World → Prop, Shut (∀ a w, I (listed.setIfInBounds i true) a w → K' a w) → if Region.wanted o (yielded ops a.tmps) = true then Oper.wp P o a w K' Q else K' (a.put o.dst undef) w)
    (hdone : ∀ (listed : Array Bool) (a : Act) (w : World), (∀ j, j < ops.size → listed.getD j false = true) → I listed a w → Q .normal a w) :
    ∀ (fuel : Nat) (listed : Array Bool) (a : Act) (w : World), listed.size = ops.size → leftB listed = fuel → I listed a w → wpAny P md ops Q fuel listed a w := by
  intro fuel
  induction fuel with
  | zero => intro listed a w hs h hI; exact ⟨ready_zero h, hdone listed a w (all_listed hB hs (ready_zero h)) hI⟩
  | succ fuel ih =>
    intro listed a w hz h hI
    refine ⟨fun hr => hdone listed a w (all_listed hB hz hr) hI, fun i hi => ?_⟩
    obtain ⟨h1, o, ho, h2⟩ := mem_ready.1 hi
    have hs := leftB_set h1
    exact wpOp_step ho (fun K' hK => hstep i o ho listed a w h1 h2 hI K' (fun a w hI => hK a w (ih _ a w (by simpa using hz) (by omega) hI)))
theorem put_selfR (a : Act) (k : Nat) : a.put (some k) (a.tmps.getD k undef) = a := putL_slots a 1 k
/-- One operation, shown whatever has come up; besides the frame's new values one more may change. -/
def StepR (P : Program) (Q : Exit → Act → World → Prop) (a : Act) (k r : Nat) (I : List Value → Value → Array Bool → World → Prop) (i : Nat) (o : Oper) (ops : Array Oper) : Prop :=
  ∀ (listed : Array Bool) (ts : List Value) (x : Value) (w : World), listed.getD i true = false → (∀ e ∈ o.after, Region.binds .any e = true → listed.getD e.on false = true) → I ts x listed w →
    ∀ K' : Act → World → Prop, Shut (∀ ts' x' w, I ts' x' (listed.setIfInBounds i true) w → K' ((putL a k ts').put (some r) x') w) → if Region.wanted o (yielded ops ((putL a k ts).put (some r) x).tmps) = true then Oper.wp P o ((putL a k ts).put (some r) x) w K' Q else K' (((putL a k ts).put (some r) x).put o.dst undef) w
def StepsR (P : Program) (Q : Exit → Act → World → Prop) (a : Act) (k r : Nat) (I : List Value → Value → Array Bool → World → Prop) (ops : Array Oper) (i : Nat) (l : List Oper) : Prop :=
  ∀ j o, l[j]? = some o → StepR P Q a k r I (i + j) o ops
theorem StepsR.nil {P : Program} {Q : Exit → Act → World → Prop} {a : Act} {k r : Nat} {I : List Value → Value → Array Bool → World → Prop} {ops : Array Oper} {i : Nat} : StepsR P Q a k r I ops i [] := fun j o h => by simp at h
theorem StepsR.cons {P : Program} {Q : Exit → Act → World → Prop} {a : Act} {k r : Nat} {I : List Value → Value → Array Bool → World → Prop} {ops : Array Oper} {i j : Nat} {o : Oper} {os : List Oper} (hj : j = i + 1) (h : StepR P Q a k r I i o ops) (hs : StepsR P Q a k r I ops j os) : StepsR P Q a k r I ops i (o :: os) := fun q x hq => by
  cases q with
  | zero => cases hq; exact h
  | succ q =>
    have := hs q x (by simpa using hq)
    rwa [hj, show i + 1 + q = i + (q + 1) by omega] at this
theorem wp_region_invR {P : Program} {Q : Exit → Act → World → Prop} {id : Nat} {l : List Oper} {a : Act} {w : World} (k m r : Nat) (I : List Value → Value → Array Bool → World → Prop) (hm : P.follows .mixedOrders = true) (hB : downB .any l.toArray = true)
    (h0 : I (slots a k m) (a.tmps.getD r undef) (Array.replicate l.toArray.size false) w.drew)
    (hstep : StepsR P Q a k r I l.toArray 0 l)
    (hdone : ∀ (listed : Array Bool) (ts : List Value) (x : Value) (w : World), (∀ j, j < l.toArray.size → listed.getD j false = true) → I ts x listed w → Q .normal ((putL a k ts).put (some r) x) w) : (Code.region id l.toArray true).wp P Q a w :=
  wp_region_any hm (wpAny_invT (fun listed a' w => ∃ ts x, a' = (putL a k ts).put (some r) x ∧ I ts x listed w) hB
    (fun i o ho listed a' w hi hall ⟨ts, x, he, hI⟩ K' hK => by
      rw [he]
      have h1 := hstep i o (by simpa using ho)
      rw [Nat.zero_add] at h1
      exact h1 listed ts x w hi hall hI K' (fun ts' x' w' hI' => hK _ w' ⟨ts', x', rfl, hI'⟩))
    (fun listed a' w hA ⟨ts, x, he, hI⟩ => by rw [he]; exact hdone listed ts x w hA hI)
    _ _ _ _ (by simp) (leftB_replicate _) ⟨_, _, by rw [putL_slots, put_selfR], h0⟩)
theorem getD_self {l : Array Bool} {i : Nat} (h : l.getD i true = false) : (l.setIfInBounds i true).getD i false = true := by
  have hi : i < l.size := by
    by_cases hi : i < l.size
    · exact hi
    · rw [Array.getD_eq_getD_getElem?, Array.getElem?_eq_none (by omega)] at h; cases h
  rw [Array.getD_eq_getD_getElem?, Array.getElem?_setIfInBounds_self_of_lt hi]; rfl
theorem getD_no {l : Array Bool} {i : Nat} (h : l.getD i true = false) : l.getD i false = false := by
  by_cases hi : i < l.size
  · rw [Array.getD_eq_getD_getElem?, Array.getElem?_eq_getElem hi] at h ⊢; exact h
  · rw [Array.getD_eq_getD_getElem?, Array.getElem?_eq_none (by omega)]; rfl
theorem keepV2 {listed : Array Bool} {i j k : Nat} {V : Prop} (h : listed.getD j false = true → listed.getD k false = false → V) (hj : i ≠ j) (hk : i ≠ k) : (listed.setIfInBounds i true).getD j false = true → (listed.setIfInBounds i true).getD k false = false → V := fun h1 h2 => h (by rwa [getDf_ne hj] at h1) (by rwa [getDf_ne hk] at h2)
theorem setT {l : Array Bool} {i j : Nat} (hij : i ≠ j) (h : l.getD j false = true) : (l.setIfInBounds i true).getD j false = true := by rw [getDf_ne hij]; exact h
/-- An append of packets, alone. -/
theorem wp_append_pk {w : World} {o : Oper} {a : Act} {K : Act → World → Prop} {Q : Exit → Act → World → Prop} (s x : Operand)
    (ho : o.op = .call { callee := .builtin .append, args := #[s, x], argTypes := #[45, 45] })
    (base : Nat) (v : Value) (n : Nat) (l0 : List Pk) (hs : a.eval s = v) (hown : w.ownsRow base 76 3 v n (pkV l0))
    (b : Option Addr) (m c : Nat) (l1 : List Pk) (hx : a.eval x = .slice b m c) (hr : PkR w b m c l1) (hn : n ≤ 1000000) (hbase : base ≤ w.heap.size)
    (h : ∀ v' w', w'.ownsRow base 76 3 v' (n + m) (pkV (l0 ++ l1)) → Below base w w' → K (a.put o.dst v') w') : Oper.wp Try.prog o a w K Q := by
  obtain ⟨i0, hi, hz0, hz1, hz2⟩ := info_parts info_pk
  have hsm := hr.sm
  have hrow : ∀ j, v.ownBlock = some j → base ≤ j := fun j hj => (hown.lt j hj).1
  cases b with
  | none =>
    obtain rfl : m = 0 := by
      rcases hr.place with ⟨h0, _⟩ | ⟨B, off, ha, _⟩
      · exact h0
      · cases ha
    have hl1 : l1 = [] := List.length_eq_zero_iff.1 hr.len
    subst hl1
    have hrun := run_append_nilc (P := Try.prog) (w := w) base 45 o.type 76 i0 3 c Try.underlying45 hi v n (pkV l0) hown
    unfold Oper.wp
    simp [execOp, ho, resolve, invoke, builtin, hs, hx, hrun, Result.andThen]
    exact h v w (by rw [List.append_nil]; exact hown) (Below.refl _ _)
  | some ad =>
    have hnews : ∀ j u, (pkV l1)[j]? = some u → w.cell? (ad.add j) = some u := by
      intro j u hj
      rcases hr.place with ⟨h0, _⟩ | ⟨B, off, ha, hc⟩
      · have : l1 = [] := List.length_eq_zero_iff.1 (by rw [hr.len]; exact h0)
        subst this; cases hj
      · cases ha; exact hc.news j u hj
    have hrun := run_append_own (P := Try.prog) w base 45 o.type 76 i0 (.agg #[.int .i64 0, .int .i64 0, .int .i64 0]) 3 24 Try.underlying45 hi hz0 hz1 hz2 rfl (by decide) v n (pkV l0) hown ad m c (pkV l1) (by rw [pkV_length, hr.len]) hnews (pkV_one l1) (by unfold maxLen; omega) (by omega) hbase
    obtain ⟨v', w', hr', hown', hg, _⟩ := hrun
    unfold Oper.wp
    simp [execOp, ho, resolve, invoke, builtin, hs, hx, hr', Result.andThen]
    exact h v' w' (by rw [pkV_append]; exact hown') (grownBy_below hg hrow hbase)

/-- A row of one's own with these packets. -/
def OWr (b : Nat) (v : Value) (A : List Pk) (w : World) : Prop := w.ownsRow b 76 3 v A.length (pkV A)
theorem OWr.mono {b b' : Nat} {v : Value} {A : List Pk} {w : World} (h : OWr b v A w) (hb : b' ≤ b) : OWr b' v A w :=
  ⟨h.1, h.2.imp id fun ⟨g, cap, cur, e, hg, r⟩ => ⟨g, cap, cur, e, Nat.le_trans hb hg, r⟩⟩
/-- What the operations of the region have, as far as they have come up. -/
structure OJ (X V1 V2 V4 V5 V6 V7 V10 : Value) (q : Pk) (b6 : Nat) (A C : List Pk) (w6 : World) (t0 t1 t2 t3 t4 t5 t6 t7 t8 t9 t10 t11 x : Value) (L : Array Bool) (wx : World) : Prop where
  fx : L.getD 0 false = false → x = X
  f0 : L.getD 0 false = true → t0 = X
  f1 : L.getD 1 false = true → t1 = V1
  f2 : L.getD 2 false = true → t2 = V2
  f3 : L.getD 3 false = true → L.getD 9 false = false → OWr b6 t3 A wx
  f4 : L.getD 4 false = true → t4 = V4
  f5 : L.getD 5 false = true → t5 = V5
  f6 : L.getD 6 false = true → t6 = V6
  f7 : L.getD 7 false = true → t7 = V7
  f8 : L.getD 8 false = true → L.getD 9 false = false → ∃ a, t8 = .slice (some a) 1 1 ∧ PkR wx (some a) 1 1 [q]
  f9 : L.getD 9 false = true → L.getD 11 false = false → OWr b6 t9 (A ++ [q]) wx
  f10 : L.getD 10 false = true → t10 = V10
  f11 : L.getD 11 false = true → OWr b6 t11 (A ++ [q] ++ C) wx
  f12 : L.getD 12 false = true → OWr b6 x (A ++ [q] ++ C) wx
  g9 : L.getD 9 false = true → L.getD 3 false = true ∧ L.getD 8 false = true
  g11 : L.getD 11 false = true → L.getD 9 false = true
  g12 : L.getD 12 false = true → L.getD 11 false = true
  hb : Below b6 w6 wx
section
variable {X V1 V2 V4 V5 V6 V7 V10 : Value} {q : Pk} {A C : List Pk} {w6 : World} {t0 t1 t2 t3 t4 t5 t6 t7 t8 t9 t10 t11 x : Value} {L : Array Bool} {wx : World}
theorem OJ.step0 (J : OJ X V1 V2 V4 V5 V6 V7 V10 q w6.heap.size A C w6 t0 t1 t2 t3 t4 t5 t6 t7 t8 t9 t10 t11 x L wx) (hi : L.getD 0 true = false) : OJ X V1 V2 V4 V5 V6 V7 V10 q w6.heap.size A C w6 X t1 t2 t3 t4 t5 t6 t7 t8 t9 t10 t11 x (L.setIfInBounds 0 true) wx :=
  ⟨fun _ => J.fx (getD_no hi),
  fun _ => rfl,
  keepV J.f1 (by decide),
  keepV J.f2 (by decide),
  keepV2 J.f3 (by decide) (by decide),
  keepV J.f4 (by decide),
  keepV J.f5 (by decide),
  keepV J.f6 (by decide),
  keepV J.f7 (by decide),
  keepV2 J.f8 (by decide) (by decide),
  keepV2 J.f9 (by decide) (by decide),
  keepV J.f10 (by decide),
  keepV J.f11 (by decide),
  keepV J.f12 (by decide),
  fun h => by
    rw [getDf_ne (by decide)] at h
    exact ⟨setT (by decide) (J.g9 h).1, setT (by decide) (J.g9 h).2⟩,
  fun h => by
    rw [getDf_ne (by decide)] at h
    exact setT (by decide) (J.g11 h),
  fun h => by
    rw [getDf_ne (by decide)] at h
    exact setT (by decide) (J.g12 h),
  J.hb⟩
theorem OJ.step1 (J : OJ X V1 V2 V4 V5 V6 V7 V10 q w6.heap.size A C w6 t0 t1 t2 t3 t4 t5 t6 t7 t8 t9 t10 t11 x L wx) (hi : L.getD 1 true = false) : OJ X V1 V2 V4 V5 V6 V7 V10 q w6.heap.size A C w6 t0 V1 t2 t3 t4 t5 t6 t7 t8 t9 t10 t11 x (L.setIfInBounds 1 true) wx :=
  ⟨fun h => J.fx (by rwa [getDf_ne (by decide)] at h),
  keepV J.f0 (by decide),
  fun _ => rfl,
  keepV J.f2 (by decide),
  keepV2 J.f3 (by decide) (by decide),
  keepV J.f4 (by decide),
  keepV J.f5 (by decide),
  keepV J.f6 (by decide),
  keepV J.f7 (by decide),
  keepV2 J.f8 (by decide) (by decide),
  keepV2 J.f9 (by decide) (by decide),
  keepV J.f10 (by decide),
  keepV J.f11 (by decide),
  keepV J.f12 (by decide),
  fun h => by
    rw [getDf_ne (by decide)] at h
    exact ⟨setT (by decide) (J.g9 h).1, setT (by decide) (J.g9 h).2⟩,
  fun h => by
    rw [getDf_ne (by decide)] at h
    exact setT (by decide) (J.g11 h),
  fun h => by
    rw [getDf_ne (by decide)] at h
    exact setT (by decide) (J.g12 h),
  J.hb⟩
theorem OJ.step2 (J : OJ X V1 V2 V4 V5 V6 V7 V10 q w6.heap.size A C w6 t0 t1 t2 t3 t4 t5 t6 t7 t8 t9 t10 t11 x L wx) (hi : L.getD 2 true = false) : OJ X V1 V2 V4 V5 V6 V7 V10 q w6.heap.size A C w6 t0 t1 V2 t3 t4 t5 t6 t7 t8 t9 t10 t11 x (L.setIfInBounds 2 true) wx :=
  ⟨fun h => J.fx (by rwa [getDf_ne (by decide)] at h),
  keepV J.f0 (by decide),
  keepV J.f1 (by decide),
  fun _ => rfl,
  keepV2 J.f3 (by decide) (by decide),
  keepV J.f4 (by decide),
  keepV J.f5 (by decide),
  keepV J.f6 (by decide),
  keepV J.f7 (by decide),
  keepV2 J.f8 (by decide) (by decide),
  keepV2 J.f9 (by decide) (by decide),
  keepV J.f10 (by decide),
  keepV J.f11 (by decide),
  keepV J.f12 (by decide),
  fun h => by
    rw [getDf_ne (by decide)] at h
    exact ⟨setT (by decide) (J.g9 h).1, setT (by decide) (J.g9 h).2⟩,
  fun h => by
    rw [getDf_ne (by decide)] at h
    exact setT (by decide) (J.g11 h),
  fun h => by
    rw [getDf_ne (by decide)] at h
    exact setT (by decide) (J.g12 h),
  J.hb⟩
theorem OJ.step4 (J : OJ X V1 V2 V4 V5 V6 V7 V10 q w6.heap.size A C w6 t0 t1 t2 t3 t4 t5 t6 t7 t8 t9 t10 t11 x L wx) (hi : L.getD 4 true = false) : OJ X V1 V2 V4 V5 V6 V7 V10 q w6.heap.size A C w6 t0 t1 t2 t3 V4 t5 t6 t7 t8 t9 t10 t11 x (L.setIfInBounds 4 true) wx :=
  ⟨fun h => J.fx (by rwa [getDf_ne (by decide)] at h),
  keepV J.f0 (by decide),
  keepV J.f1 (by decide),
  keepV J.f2 (by decide),
  keepV2 J.f3 (by decide) (by decide),
  fun _ => rfl,
  keepV J.f5 (by decide),
  keepV J.f6 (by decide),
  keepV J.f7 (by decide),
  keepV2 J.f8 (by decide) (by decide),
  keepV2 J.f9 (by decide) (by decide),
  keepV J.f10 (by decide),
  keepV J.f11 (by decide),
  keepV J.f12 (by decide),
  fun h => by
    rw [getDf_ne (by decide)] at h
    exact ⟨setT (by decide) (J.g9 h).1, setT (by decide) (J.g9 h).2⟩,
  fun h => by
    rw [getDf_ne (by decide)] at h
    exact setT (by decide) (J.g11 h),
  fun h => by
    rw [getDf_ne (by decide)] at h
    exact setT (by decide) (J.g12 h),
  J.hb⟩
theorem OJ.step5 (J : OJ X V1 V2 V4 V5 V6 V7 V10 q w6.heap.size A C w6 t0 t1 t2 t3 t4 t5 t6 t7 t8 t9 t10 t11 x L wx) (hi : L.getD 5 true = false) : OJ X V1 V2 V4 V5 V6 V7 V10 q w6.heap.size A C w6 t0 t1 t2 t3 t4 V5 t6 t7 t8 t9 t10 t11 x (L.setIfInBounds 5 true) wx :=
  ⟨fun h => J.fx (by rwa [getDf_ne (by decide)] at h),
  keepV J.f0 (by decide),
  keepV J.f1 (by decide),
  keepV J.f2 (by decide),
  keepV2 J.f3 (by decide) (by decide),
  keepV J.f4 (by decide),
  fun _ => rfl,
  keepV J.f6 (by decide),
  keepV J.f7 (by decide),
  keepV2 J.f8 (by decide) (by decide),
  keepV2 J.f9 (by decide) (by decide),
  keepV J.f10 (by decide),
  keepV J.f11 (by decide),
  keepV J.f12 (by decide),
  fun h => by
    rw [getDf_ne (by decide)] at h
    exact ⟨setT (by decide) (J.g9 h).1, setT (by decide) (J.g9 h).2⟩,
  fun h => by
    rw [getDf_ne (by decide)] at h
    exact setT (by decide) (J.g11 h),
  fun h => by
    rw [getDf_ne (by decide)] at h
    exact setT (by decide) (J.g12 h),
  J.hb⟩
theorem OJ.step6 (J : OJ X V1 V2 V4 V5 V6 V7 V10 q w6.heap.size A C w6 t0 t1 t2 t3 t4 t5 t6 t7 t8 t9 t10 t11 x L wx) (hi : L.getD 6 true = false) : OJ X V1 V2 V4 V5 V6 V7 V10 q w6.heap.size A C w6 t0 t1 t2 t3 t4 t5 V6 t7 t8 t9 t10 t11 x (L.setIfInBounds 6 true) wx :=
  ⟨fun h => J.fx (by rwa [getDf_ne (by decide)] at h),
  keepV J.f0 (by decide),
  keepV J.f1 (by decide),
  keepV J.f2 (by decide),
  keepV2 J.f3 (by decide) (by decide),
  keepV J.f4 (by decide),
  keepV J.f5 (by decide),
  fun _ => rfl,
  keepV J.f7 (by decide),
  keepV2 J.f8 (by decide) (by decide),
  keepV2 J.f9 (by decide) (by decide),
  keepV J.f10 (by decide),
  keepV J.f11 (by decide),
  keepV J.f12 (by decide),
  fun h => by
    rw [getDf_ne (by decide)] at h
    exact ⟨setT (by decide) (J.g9 h).1, setT (by decide) (J.g9 h).2⟩,
  fun h => by
    rw [getDf_ne (by decide)] at h
    exact setT (by decide) (J.g11 h),
  fun h => by
    rw [getDf_ne (by decide)] at h
    exact setT (by decide) (J.g12 h),
  J.hb⟩
theorem OJ.step7 (J : OJ X V1 V2 V4 V5 V6 V7 V10 q w6.heap.size A C w6 t0 t1 t2 t3 t4 t5 t6 t7 t8 t9 t10 t11 x L wx) (hi : L.getD 7 true = false) : OJ X V1 V2 V4 V5 V6 V7 V10 q w6.heap.size A C w6 t0 t1 t2 t3 t4 t5 t6 V7 t8 t9 t10 t11 x (L.setIfInBounds 7 true) wx :=
  ⟨fun h => J.fx (by rwa [getDf_ne (by decide)] at h),
  keepV J.f0 (by decide),
  keepV J.f1 (by decide),
  keepV J.f2 (by decide),
  keepV2 J.f3 (by decide) (by decide),
  keepV J.f4 (by decide),
  keepV J.f5 (by decide),
  keepV J.f6 (by decide),
  fun _ => rfl,
  keepV2 J.f8 (by decide) (by decide),
  keepV2 J.f9 (by decide) (by decide),
  keepV J.f10 (by decide),
  keepV J.f11 (by decide),
  keepV J.f12 (by decide),
  fun h => by
    rw [getDf_ne (by decide)] at h
    exact ⟨setT (by decide) (J.g9 h).1, setT (by decide) (J.g9 h).2⟩,
  fun h => by
    rw [getDf_ne (by decide)] at h
    exact setT (by decide) (J.g11 h),
  fun h => by
    rw [getDf_ne (by decide)] at h
    exact setT (by decide) (J.g12 h),
  J.hb⟩
theorem OJ.step10 (J : OJ X V1 V2 V4 V5 V6 V7 V10 q w6.heap.size A C w6 t0 t1 t2 t3 t4 t5 t6 t7 t8 t9 t10 t11 x L wx) (hi : L.getD 10 true = false) : OJ X V1 V2 V4 V5 V6 V7 V10 q w6.heap.size A C w6 t0 t1 t2 t3 t4 t5 t6 t7 t8 t9 V10 t11 x (L.setIfInBounds 10 true) wx :=
  ⟨fun h => J.fx (by rwa [getDf_ne (by decide)] at h),
  keepV J.f0 (by decide),
  keepV J.f1 (by decide),
  keepV J.f2 (by decide),
  keepV2 J.f3 (by decide) (by decide),
  keepV J.f4 (by decide),
  keepV J.f5 (by decide),
  keepV J.f6 (by decide),
  keepV J.f7 (by decide),
  keepV2 J.f8 (by decide) (by decide),
  keepV2 J.f9 (by decide) (by decide),
  fun _ => rfl,
  keepV J.f11 (by decide),
  keepV J.f12 (by decide),
  fun h => by
    rw [getDf_ne (by decide)] at h
    exact ⟨setT (by decide) (J.g9 h).1, setT (by decide) (J.g9 h).2⟩,
  fun h => by
    rw [getDf_ne (by decide)] at h
    exact setT (by decide) (J.g11 h),
  fun h => by
    rw [getDf_ne (by decide)] at h
    exact setT (by decide) (J.g12 h),
  J.hb⟩
theorem OJ.step3 (J : OJ X V1 V2 V4 V5 V6 V7 V10 q w6.heap.size A C w6 t0 t1 t2 t3 t4 t5 t6 t7 t8 t9 t10 t11 x L wx) (hi : L.getD 3 true = false) {v : Value} {w' : World} (ho : OWr wx.heap.size v A w') (hb : Below wx.heap.size wx w') : OJ X V1 V2 V4 V5 V6 V7 V10 q w6.heap.size A C w6 t0 t1 t2 v t4 t5 t6 t7 t8 t9 t10 t11 x (L.setIfInBounds 3 true) w' :=
  ⟨fun h => J.fx (by rwa [getDf_ne (by decide)] at h),
  keepV J.f0 (by decide),
  keepV J.f1 (by decide),
  keepV J.f2 (by decide),
  fun _ _ => OWr.mono ho J.hb.size,
  keepV J.f4 (by decide),
  keepV J.f5 (by decide),
  keepV J.f6 (by decide),
  keepV J.f7 (by decide),
  fun h h9 => by
    rw [getDf_ne (by decide)] at h h9
    obtain ⟨a, e, hr⟩ := J.f8 h h9
    exact ⟨a, e, hr.under hb⟩,
  fun h _ => by
    rw [getDf_ne (by decide)] at h
    exact absurd ((J.g9 h).1) (by rw [getD_no hi]; decide),
  keepV J.f10 (by decide),
  fun h => by
    rw [getDf_ne (by decide)] at h
    exact absurd ((J.g9 (J.g11 h)).1) (by rw [getD_no hi]; decide),
  fun h => by
    rw [getDf_ne (by decide)] at h
    exact absurd ((J.g9 (J.g11 (J.g12 h))).1) (by rw [getD_no hi]; decide),
  fun h => by
    rw [getDf_ne (by decide)] at h
    exact ⟨getD_self hi, setT (by decide) (J.g9 h).2⟩,
  fun h => by
    rw [getDf_ne (by decide)] at h
    exact setT (by decide) (J.g11 h),
  fun h => by
    rw [getDf_ne (by decide)] at h
    exact setT (by decide) (J.g12 h),
  J.hb.trans (hb.mono J.hb.size)⟩
theorem OJ.step8 (J : OJ X V1 V2 V4 V5 V6 V7 V10 q w6.heap.size A C w6 t0 t1 t2 t3 t4 t5 t6 t7 t8 t9 t10 t11 x L wx) (hi : L.getD 8 true = false) {ad : Addr} {o : Obj} (hr : PkR (wx.alloc o) (some ad) 1 1 [q]) : OJ X V1 V2 V4 V5 V6 V7 V10 q w6.heap.size A C w6 t0 t1 t2 t3 t4 t5 t6 t7 (.slice (some ad) 1 1) t9 t10 t11 x (L.setIfInBounds 8 true) (wx.alloc o) :=
  ⟨fun h => J.fx (by rwa [getDf_ne (by decide)] at h),
  keepV J.f0 (by decide),
  keepV J.f1 (by decide),
  keepV J.f2 (by decide),
  fun h h9 => by
    rw [getDf_ne (by decide)] at h h9
    exact (J.f3 h h9).alloc o,
  keepV J.f4 (by decide),
  keepV J.f5 (by decide),
  keepV J.f6 (by decide),
  keepV J.f7 (by decide),
  fun _ _ => ⟨ad, rfl, hr⟩,
  fun h _ => by
    rw [getDf_ne (by decide)] at h
    exact absurd ((J.g9 h).2) (by rw [getD_no hi]; decide),
  keepV J.f10 (by decide),
  fun h => by
    rw [getDf_ne (by decide)] at h
    exact absurd ((J.g9 (J.g11 h)).2) (by rw [getD_no hi]; decide),
  fun h => by
    rw [getDf_ne (by decide)] at h
    exact absurd ((J.g9 (J.g11 (J.g12 h))).2) (by rw [getD_no hi]; decide),
  fun h => by
    rw [getDf_ne (by decide)] at h
    exact ⟨setT (by decide) (J.g9 h).1, getD_self hi⟩,
  fun h => by
    rw [getDf_ne (by decide)] at h
    exact setT (by decide) (J.g11 h),
  fun h => by
    rw [getDf_ne (by decide)] at h
    exact setT (by decide) (J.g12 h),
  J.hb.alloc J.hb.size o⟩
theorem OJ.step9 (J : OJ X V1 V2 V4 V5 V6 V7 V10 q w6.heap.size A C w6 t0 t1 t2 t3 t4 t5 t6 t7 t8 t9 t10 t11 x L wx) (hi : L.getD 9 true = false) (h3 : L.getD 3 false = true) (h8 : L.getD 8 false = true) {v : Value} {w' : World} (ho : OWr w6.heap.size v (A ++ [q]) w') (hb : Below w6.heap.size wx w') : OJ X V1 V2 V4 V5 V6 V7 V10 q w6.heap.size A C w6 t0 t1 t2 t3 t4 t5 t6 t7 t8 v t10 t11 x (L.setIfInBounds 9 true) w' :=
  ⟨fun h => J.fx (by rwa [getDf_ne (by decide)] at h),
  keepV J.f0 (by decide),
  keepV J.f1 (by decide),
  keepV J.f2 (by decide),
  fun _ h => absurd (getD_self hi) (by rw [h]; decide),
  keepV J.f4 (by decide),
  keepV J.f5 (by decide),
  keepV J.f6 (by decide),
  keepV J.f7 (by decide),
  fun _ h => absurd (getD_self hi) (by rw [h]; decide),
  fun _ _ => ho,
  keepV J.f10 (by decide),
  fun h => by
    rw [getDf_ne (by decide)] at h
    exact absurd (J.g11 h) (by rw [getD_no hi]; decide),
  fun h => by
    rw [getDf_ne (by decide)] at h
    exact absurd (J.g11 (J.g12 h)) (by rw [getD_no hi]; decide),
  fun _ => ⟨setT (by decide) h3, setT (by decide) h8⟩,
  fun h => by
    rw [getDf_ne (by decide)] at h
    exact getD_self hi,
  fun h => by
    rw [getDf_ne (by decide)] at h
    exact setT (by decide) (J.g12 h),
  J.hb.trans hb⟩
theorem OJ.step11 (J : OJ X V1 V2 V4 V5 V6 V7 V10 q w6.heap.size A C w6 t0 t1 t2 t3 t4 t5 t6 t7 t8 t9 t10 t11 x L wx) (hi : L.getD 11 true = false) (h9 : L.getD 9 false = true) {v : Value} {w' : World} (ho : OWr w6.heap.size v (A ++ [q] ++ C) w') (hb : Below w6.heap.size wx w') : OJ X V1 V2 V4 V5 V6 V7 V10 q w6.heap.size A C w6 t0 t1 t2 t3 t4 t5 t6 t7 t8 t9 t10 v x (L.setIfInBounds 11 true) w' :=
  ⟨fun h => J.fx (by rwa [getDf_ne (by decide)] at h),
  keepV J.f0 (by decide),
  keepV J.f1 (by decide),
  keepV J.f2 (by decide),
  fun _ h => by
    rw [getDf_ne (by decide), h9] at h
    exact Bool.noConfusion h,
  keepV J.f4 (by decide),
  keepV J.f5 (by decide),
  keepV J.f6 (by decide),
  keepV J.f7 (by decide),
  fun _ h => by
    rw [getDf_ne (by decide), h9] at h
    exact Bool.noConfusion h,
  fun _ h => absurd (getD_self hi) (by rw [h]; decide),
  keepV J.f10 (by decide),
  fun _ => ho,
  fun h => by
    rw [getDf_ne (by decide)] at h
    exact absurd (J.g12 h) (by rw [getD_no hi]; decide),
  fun h => by
    rw [getDf_ne (by decide)] at h
    exact ⟨setT (by decide) (J.g9 h).1, setT (by decide) (J.g9 h).2⟩,
  fun _ => setT (by decide) h9,
  fun h => by
    rw [getDf_ne (by decide)] at h
    exact getD_self hi,
  J.hb.trans hb⟩
theorem OJ.step12 (J : OJ X V1 V2 V4 V5 V6 V7 V10 q w6.heap.size A C w6 t0 t1 t2 t3 t4 t5 t6 t7 t8 t9 t10 t11 x L wx) (hi : L.getD 12 true = false) (h0 : L.getD 0 false = true) (h11 : L.getD 11 false = true) : OJ X V1 V2 V4 V5 V6 V7 V10 q w6.heap.size A C w6 t0 t1 t2 t3 t4 t5 t6 t7 t8 t9 t10 t11 t11 (L.setIfInBounds 12 true) wx :=
  ⟨fun h => by
    rw [getDf_ne (by decide), h0] at h
    exact Bool.noConfusion h,
  keepV J.f0 (by decide),
  keepV J.f1 (by decide),
  keepV J.f2 (by decide),
  keepV2 J.f3 (by decide) (by decide),
  keepV J.f4 (by decide),
  keepV J.f5 (by decide),
  keepV J.f6 (by decide),
  keepV J.f7 (by decide),
  keepV2 J.f8 (by decide) (by decide),
  keepV2 J.f9 (by decide) (by decide),
  keepV J.f10 (by decide),
  keepV J.f11 (by decide),
  fun _ => J.f11 h11,
  fun h => by
    rw [getDf_ne (by decide)] at h
    exact ⟨setT (by decide) (J.g9 h).1, setT (by decide) (J.g9 h).2⟩,
  fun h => by
    rw [getDf_ne (by decide)] at h
    exact setT (by decide) (J.g11 h),
  fun _ => setT (by decide) h11,
  J.hb⟩
end

set_option maxHeartbeats 800000 in
theorem wp_load_pk {w : World} {o : Oper} {a : Act} {K : Act → World → Prop} {Q : Exit → Act → World → Prop} (x : Operand) (ho : o.op = .load 76 x) (B off : Nat) (q : Pk) (hx : a.eval x = .pointer (some ⟨B, off, none⟩))
    (z0 : w.cell? ⟨B, off, none⟩ = some (.int .i64 q.f)) (z1 : w.cell? ⟨B, off + 1, none⟩ = some (.int .i64 q.t)) (z2 : w.cell? ⟨B, off + 2, none⟩ = some (.int .i64 q.s)) (h : K (a.put o.dst (.agg #[.int .i64 q.f, .int .i64 q.t, .int .i64 q.s])) w) : Oper.wp Try.prog o a w K Q := by
  unfold Oper.wp
  simp only [execOp, ho, hx]
  go_simp
  exact h
theorem OJ.start (X V1 V2 V4 V5 V6 V7 V10 : Value) (q : Pk) (A C : List Pk) (w6 : World) {t0 t1 t2 t3 t4 t5 t6 t7 t8 t9 t10 t11 : Value} : OJ X V1 V2 V4 V5 V6 V7 V10 q w6.heap.size A C w6 t0 t1 t2 t3 t4 t5 t6 t7 t8 t9 t10 t11 X (Array.replicate 13 false) w6.drew :=
  ⟨fun _ => rfl, fun h => absurd h (by decide), fun h => absurd h (by decide), fun h => absurd h (by decide), fun h => absurd h (by decide), fun h => absurd h (by decide), fun h => absurd h (by decide), fun h => absurd h (by decide), fun h => absurd h (by decide), fun h => absurd h (by decide), fun h => absurd h (by decide), fun h => absurd h (by decide), fun h => absurd h (by decide), fun h => absurd h (by decide), fun h => absurd h (by decide), fun h => absurd h (by decide), fun h => absurd h (by decide), (Below.refl _ _).drew⟩
theorem owr_nil {b m : Nat} {v : Value} {A : List Pk} {w : World} (hA : A.length = m) (h : w.ownsRow b 76 3 v (0 + m) (pkV ([] ++ A))) : OWr b v A w := by
  unfold OWr; rw [hA]; rwa [Nat.zero_add, List.nil_append] at h
theorem owr_one {b : Nat} {v : Value} {A : List Pk} {q : Pk} {w : World} (h : w.ownsRow b 76 3 v (A.length + 1) (pkV (A ++ [q]))) : OWr b v (A ++ [q]) w := by
  unfold OWr; rw [List.length_append, List.length_singleton]; exact h
theorem owr_more {b m : Nat} {v : Value} {A C : List Pk} {q : Pk} {w : World} (hC : C.length = m) (h : w.ownsRow b 76 3 v ((A ++ [q]).length + m) (pkV (A ++ [q] ++ C))) : OWr b v (A ++ [q] ++ C) w := by
  unfold OWr; rw [List.length_append, hC]; exact h
set_option maxRecDepth 100000 in
set_option maxHeartbeats 3200000 in
theorem rorder13 (a : Option Addr) (n cap : Nat) (l : List Pk) (w : World) (hn : n ≤ 1000) (h : PkR w a n cap l) :
    Calls Try.prog 39 #[.slice a n cap] w (GivesOwn (isort l) w) := by
  have H := Lib.hid h
  have hln := h.len
  clear h
  go_enter Try.func39, Try.ntmps39
  go_wp2_with fail
  go_loopw [4, 3] (fun s4 s3 wx => ∃ i : Nat, s4 = .int .i64 i ∧ i ≤ n ∧ Hid (OwnL w s3 (isort (l.take i)) wx) ∧ (0 < i ∨ s3 = .slice none 0 0)) (fun s4 _ _ => n - (intOf s4).toNat)
  case atStart => exact ⟨0, by go_num, Nat.zero_le _, OwnL.nil w, .inr rfl⟩
  case round =>
    obtain ⟨i, rfl, hi, HO, hs30⟩ := hrel
    obtain ⟨wk, rfl⟩ : ∃ u : World, u = wr := ⟨_, rfl⟩
    obtain ⟨L, hL⟩ : ∃ L, isort (l.take i) = L := ⟨_, rfl⟩
    have hLl : L.length = i := by rw [← hL, isort_length, List.length_take]; omega
    have hLb : ∀ q ∈ L, Pk64 q := fun q hq => H.out.bd q (List.mem_of_mem_take ((mem_isort q _).1 (by rw [hL]; exact hq)))
    rw [hL] at HO
    have HL := Lib.hid hL
    have HLB := Lib.hid (And.intro hLl hLb)
    obtain ⟨av, cv, hv, hr⟩ := HO.out.reads (by omega) hLb
    rw [hLl] at hv hr
    subst hv
    have HV := Lib.hid hr
    have HS30 := Lib.hid hs30
    clear hs30
    clear hL hLl hLb hr
    by_cases hlt : i < n
    · have hlI : (i : Int) < (n : Int) := by omega
      obtain ⟨B, off, q, ha, hcs, hq, hbd⟩ := (H.out.under HO.out.2).at hlt
      have HQ := Lib.hid (And.intro hq (And.intro hbd hcs))
      subst ha
      clear hcs hq hbd
      go_wp2_with fail
      go_loopw [5] (fun s5 wx => ∃ m : Nat, s5 = .int .i64 m ∧ m ≤ i ∧ Hid (AllLater L q.t m) ∧ ∃ nd : Nat, wx = wk.drewN nd) (fun s5 _ => (intOf s5).toNat)
      case atStart => exact ⟨i, rfl, Nat.le_refl _, by rw [← HLB.out.1]; exact AllLater.start L q.t, 0, rfl⟩
      case round =>
        obtain ⟨m, rfl, hmi, HM, nd, hwd⟩ := hrel
        obtain ⟨wm, rfl⟩ : ∃ u : World, u = wr := ⟨_, rfl⟩
        have HWD := Lib.hid hwd
        have HVm := Lib.hid (show PkR wm av i cv L from by rw [hwd]; exact HV.out.under ((Below.refl _ _).drewN nd))
        have HCm := Lib.hid (show PkC wm B off l from by rw [hwd]; exact HQ.out.2.2.under ((Below.refl _ _).drewN nd))
        obtain ⟨c0, c1, c2⟩ := HCm.out i q HQ.out.1
        clear hwd
        by_cases hm0 : m = 0
        · subst hm0
          rcases HS30.out with hi0 | hs0
          · obtain ⟨B2, off2, y0, ha2, _, _, _⟩ := HVm.out.at (show 0 < i by omega)
            subst ha2
            have hcv0 : 0 < cv := by have := HVm.out.le; omega
            have hcvI : (0 : Int) < (cv : Int) := by omega
            go_wp2_with fail
            go_quiet (fail)
            have HBm := Lib.hid (show Below w.heap.size w (wm.drewN nq) from by rw [HWD.out]; exact (HO.out.2.drewN nd).drewN nq)
            have hcv := HVm.out.le
            go_upto_region 8 with fail
            go_cut [6, 35, 36] (fun s6 s35 s36 wx => Hid (wx.ownsRow wm.heap.size 76 3 s6 (i - 0) (pkV (L.drop 0))) ∧ Hid (Below wm.heap.size wm wx))
            case first =>
              have hsz : (wm.drewN nq).heap.size = wm.heap.size := rfl
              have HBd := Lib.hid ((Below.refl wm.heap.size wm).drewN nq)
              have HVn := Lib.hid (show PkR (wm.drewN nq) (some ⟨B2, off2, none⟩) i cv (L.drop 0) from HVm.out.under ((Below.refl _ _).drewN nq))
              go_wp2_with (at_builtin; (refine wpList_append_pk rfl _ _ rfl wm.heap.size (.slice none 0 0) 0 [] rfl (World.ownsRow_nil _ _ _ _) (some ⟨B2, off2, none⟩) i cv (L.drop 0) rfl HVn.out (by omega) (Nat.le_refl _) ?_))
              intro v6 w6 ho6 hb6
              have HO6 := Lib.hid (show w6.ownsRow wm.heap.size 76 3 v6 (i - 0) (pkV (L.drop 0)) from by first | exact ho6 | (rwa [Nat.zero_add, List.nil_append] at ho6))
              have HB6 := Lib.hid (HBd.out.trans hb6)
              clear ho6 hb6
              go_wp2_with fail
              go_meet
              case rel => exact ⟨HO6, HB6⟩
            case rest =>
              obtain ⟨HO6, HB6m⟩ := hcut
              obtain ⟨w6, rfl⟩ : ∃ u : World, u = wc := ⟨_, rfl⟩
              have HB6 := Lib.hid (show Below w.heap.size w w6 from by
                have h1 : Below w.heap.size w wm := by rw [HWD.out]; exact HO.out.2.drewN nd
                exact h1.trans (HB6m.out.mono h1.size))
              have HC6 := Lib.hid (show ∀ u, Below w6.heap.size w6 u → u.cell? ⟨B, off + i * 3, none⟩ = some (.int .i64 q.f) ∧ u.cell? ⟨B, off + i * 3 + 1, none⟩ = some (.int .i64 q.t) ∧ u.cell? ⟨B, off + i * 3 + 2, none⟩ = some (.int .i64 q.s) from fun u hu => by
                rcases ((H.out.under HB6.out).under hu).place with ⟨h0, _⟩ | ⟨B', off', ha', hc'⟩
                · omega
                · cases ha'; exact hc' i q HQ.out.1)
              have HBW := Lib.hid (show w.heap.size ≤ w6.heap.size from HB6.out.size)
              have HQ64 := Lib.hid (H.out.bd q (List.mem_of_getElem? HQ.out.1))
              obtain ⟨hlC, aC, cC, hvC, hC1, hC2, _, hC4⟩ := pkO_of_owns HO6.out
              obtain ⟨C, hC⟩ : ∃ C, L.drop 0 = C := ⟨_, rfl⟩
              obtain ⟨A, hA⟩ : ∃ A, L.take 0 = A := ⟨_, rfl⟩
              rw [hC] at hlC hC4
              have HRC := Lib.hid (show PkR w6 aC (i - 0) cC C from ⟨hlC, hC1, by omega, hC2, by
                rcases hC4 with ⟨_, h0⟩ | ⟨g', ha, _, ho⟩
                · exact .inl ⟨h0, fun _ _ => trivial⟩
                · exact .inr ⟨g', 0, ha, ho.cells⟩, fun y hy => HLB.out.2 y (by rw [← hC] at hy; exact List.mem_of_mem_drop hy)⟩)
              have HAL := Lib.hid (show A.length = 0 by rw [← hA, List.length_take, HLB.out.1]; omega)
              have HNEW := Lib.hid (show isort (l.take (i + 1)) = A ++ [q] ++ C from by
                rw [← hA, ← hC, ← HL.out]
                exact isort_at HQ.out.1 (by omega) (by rw [HL.out]; exact HM.out) (.inl rfl))
              have HVT := Lib.hid (show PkR w6 (some ⟨B2, off2, none⟩) 0 cv A from (by rw [← hA]; exact (HVm.out.under HB6m.out).take 0 (by omega)))
              subst hvC
              obtain ⟨nC, hnC⟩ : ∃ nC, i - 0 = nC := ⟨_, rfl⟩
              rw [hnC] at HRC ⊢
              clear hlC hC1 hC2 hC4 hC hA HO6 hnC
              go_upto_region 9 with fail
              refine wp_region_invR 37 12 3 (fun ts x listed wx => ∃ t0 t1 t2 t3 t4 t5 t6 t7 t8 t9 t10 t11 : Value, ts = [t0, t1, t2, t3, t4, t5, t6, t7, t8, t9, t10, t11] ∧ Hid (OJ (.slice (some ⟨B2, off2, none⟩) i cv) (.int .i64 0) (.slice (some ⟨B2, off2, none⟩) 0 cv) (.slice (some ⟨B, off, none⟩) n cap) (.int .i64 i) (.pointer (some ⟨B, off + i * 3, none⟩)) (.agg #[.int .i64 q.f, .int .i64 q.t, .int .i64 q.s]) (.slice aC nC cC) q w6.heap.size A C w6 t0 t1 t2 t3 t4 t5 t6 t7 t8 t9 t10 t11 x listed wx)) (by kernel_rfl) (by kernel_rfl) ?h0 ?hstep ?hdone
              case h0 => exact ⟨_, _, _, _, _, _, _, _, _, _, _, _, rfl, Lib.hid (OJ.start _ _ _ _ _ _ _ _ _ _ _ _)⟩
              case hstep =>
                refine (StepsR.cons (j := 1) rfl ?s0 (StepsR.cons (j := 2) rfl ?s1 (StepsR.cons (j := 3) rfl ?s2 (StepsR.cons (j := 4) rfl ?s3 (StepsR.cons (j := 5) rfl ?s4 (StepsR.cons (j := 6) rfl ?s5 (StepsR.cons (j := 7) rfl ?s6 (StepsR.cons (j := 8) rfl ?s7 (StepsR.cons (j := 9) rfl ?s8 (StepsR.cons (j := 10) rfl ?s9 (StepsR.cons (j := 11) rfl ?s10 (StepsR.cons (j := 12) rfl ?s11 (StepsR.cons (j := 13) rfl ?s12 StepsR.nil)))))))))))))
                case s0 =>
                  intro listed ts x wx hi hall hI K hK
                  obtain ⟨t0, t1, t2, t3, t4, t5, t6, t7, t8, t9, t10, t11, hts, J⟩ := hI
                  subst hts
                  obtain rfl := J.out.fx (getD_no hi)
                  rw [if_pos (by rfl)]
                  have hk := hK.out [_, t1, t2, t3, t4, t5, t6, t7, t8, t9, t10, t11] _ wx ⟨_, t1, t2, t3, t4, t5, t6, t7, t8, t9, t10, t11, rfl, Lib.hid (J.out.step0 hi)⟩
                  simp only [putL, Act.put, List.getElem_toArray, List.getElem_cons_zero, List.getElem_cons_succ, List.setIfInBounds_toArray, List.set_cons_zero, List.set_cons_succ]
                  go_simp
                  simp only [putL, Act.put, List.getElem_toArray, List.getElem_cons_zero, List.getElem_cons_succ, List.setIfInBounds_toArray, List.set_cons_zero, List.set_cons_succ] at hk
                  exact hk
                case s1 =>
                  intro listed ts x wx hi hall hI K hK
                  obtain ⟨t0, t1, t2, t3, t4, t5, t6, t7, t8, t9, t10, t11, hts, J⟩ := hI
                  subst hts
                  rw [if_pos (by rfl)]
                  have hk := hK.out [t0, _, t2, t3, t4, t5, t6, t7, t8, t9, t10, t11] x wx ⟨t0, _, t2, t3, t4, t5, t6, t7, t8, t9, t10, t11, rfl, Lib.hid (J.out.step1 hi)⟩
                  simp only [putL, Act.put, List.getElem_toArray, List.getElem_cons_zero, List.getElem_cons_succ, List.setIfInBounds_toArray, List.set_cons_zero, List.set_cons_succ]
                  go_simp
                  simp only [putL, Act.put, List.getElem_toArray, List.getElem_cons_zero, List.getElem_cons_succ, List.setIfInBounds_toArray, List.set_cons_zero, List.set_cons_succ] at hk
                  exact hk
                case s2 =>
                  intro listed ts x wx hi hall hI K hK
                  obtain ⟨t0, t1, t2, t3, t4, t5, t6, t7, t8, t9, t10, t11, hts, J⟩ := hI
                  subst hts
                  obtain rfl := J.out.f0 (hall ⟨0, Ground.data⟩ (by simp) (by rfl))
                  obtain rfl := J.out.f1 (hall ⟨1, Ground.data⟩ (by simp) (by rfl))
                  rw [if_pos (by rfl)]
                  have hk := hK.out [_, _, _, t3, t4, t5, t6, t7, t8, t9, t10, t11] x wx ⟨_, _, _, t3, t4, t5, t6, t7, t8, t9, t10, t11, rfl, Lib.hid (J.out.step2 hi)⟩
                  simp only [putL, Act.put, List.getElem_toArray, List.getElem_cons_zero, List.getElem_cons_succ, List.setIfInBounds_toArray, List.set_cons_zero, List.set_cons_succ]
                  go_simp
                  simp only [putL, Act.put, List.getElem_toArray, List.getElem_cons_zero, List.getElem_cons_succ, List.setIfInBounds_toArray, List.set_cons_zero, List.set_cons_succ] at hk
                  exact hk
                case s3 =>
                  intro listed ts x wx hi hall hI K hK
                  obtain ⟨t0, t1, t2, t3, t4, t5, t6, t7, t8, t9, t10, t11, hts, J⟩ := hI
                  subst hts
                  rw [if_pos (by rfl)]
                  obtain rfl := J.out.f2 (hall ⟨2, Ground.data⟩ (by simp) (by rfl))
                  simp only [putL, Act.put, List.getElem_toArray, List.getElem_cons_zero, List.getElem_cons_succ, List.setIfInBounds_toArray, List.set_cons_zero, List.set_cons_succ]
                  refine wp_append_pk (.const (.slice none 0 0)) (.tmp 39) rfl wx.heap.size (.slice none 0 0) 0 [] rfl (World.ownsRow_nil _ _ _ _) (some ⟨B2, off2, none⟩) 0 cv A rfl (HVT.out.under J.out.hb) (by omega) (Nat.le_refl _) ?_
                  intro v' w' ho hb
                  have hk := hK.out [t0, t1, _, v', t4, t5, t6, t7, t8, t9, t10, t11] x w' ⟨t0, t1, _, v', t4, t5, t6, t7, t8, t9, t10, t11, rfl, Lib.hid (J.out.step3 hi (owr_nil HAL.out ho) hb)⟩
                  simp only [putL, Act.put, List.getElem_toArray, List.getElem_cons_zero, List.getElem_cons_succ, List.setIfInBounds_toArray, List.set_cons_zero, List.set_cons_succ] at hk ⊢
                  exact hk
                case s4 =>
                  intro listed ts x wx hi hall hI K hK
                  obtain ⟨t0, t1, t2, t3, t4, t5, t6, t7, t8, t9, t10, t11, hts, J⟩ := hI
                  subst hts
                  rw [if_pos (by rfl)]
                  have hk := hK.out [t0, t1, t2, t3, _, t5, t6, t7, t8, t9, t10, t11] x wx ⟨t0, t1, t2, t3, _, t5, t6, t7, t8, t9, t10, t11, rfl, Lib.hid (J.out.step4 hi)⟩
                  simp only [putL, Act.put, List.getElem_toArray, List.getElem_cons_zero, List.getElem_cons_succ, List.setIfInBounds_toArray, List.set_cons_zero, List.set_cons_succ]
                  go_simp
                  simp only [putL, Act.put, List.getElem_toArray, List.getElem_cons_zero, List.getElem_cons_succ, List.setIfInBounds_toArray, List.set_cons_zero, List.set_cons_succ] at hk
                  exact hk
                case s5 =>
                  intro listed ts x wx hi hall hI K hK
                  obtain ⟨t0, t1, t2, t3, t4, t5, t6, t7, t8, t9, t10, t11, hts, J⟩ := hI
                  subst hts
                  rw [if_pos (by rfl)]
                  have hk := hK.out [t0, t1, t2, t3, t4, _, t6, t7, t8, t9, t10, t11] x wx ⟨t0, t1, t2, t3, t4, _, t6, t7, t8, t9, t10, t11, rfl, Lib.hid (J.out.step5 hi)⟩
                  simp only [putL, Act.put, List.getElem_toArray, List.getElem_cons_zero, List.getElem_cons_succ, List.setIfInBounds_toArray, List.set_cons_zero, List.set_cons_succ]
                  go_simp
                  simp only [putL, Act.put, List.getElem_toArray, List.getElem_cons_zero, List.getElem_cons_succ, List.setIfInBounds_toArray, List.set_cons_zero, List.set_cons_succ] at hk
                  exact hk
                case s6 =>
                  intro listed ts x wx hi hall hI K hK
                  obtain ⟨t0, t1, t2, t3, t4, t5, t6, t7, t8, t9, t10, t11, hts, J⟩ := hI
                  subst hts
                  obtain rfl := J.out.f4 (hall ⟨4, Ground.data⟩ (by simp) (by rfl))
                  obtain rfl := J.out.f5 (hall ⟨5, Ground.data⟩ (by simp) (by rfl))
                  rw [if_pos (by rfl)]
                  have hk := hK.out [t0, t1, t2, t3, _, _, _, t7, t8, t9, t10, t11] x wx ⟨t0, t1, t2, t3, _, _, _, t7, t8, t9, t10, t11, rfl, Lib.hid (J.out.step6 hi)⟩
                  simp only [putL, Act.put, List.getElem_toArray, List.getElem_cons_zero, List.getElem_cons_succ, List.setIfInBounds_toArray, List.set_cons_zero, List.set_cons_succ]
                  go_simp
                  simp only [putL, Act.put, List.getElem_toArray, List.getElem_cons_zero, List.getElem_cons_succ, List.setIfInBounds_toArray, List.set_cons_zero, List.set_cons_succ] at hk
                  exact hk
                case s7 =>
                  intro listed ts x wx hi hall hI K hK
                  obtain ⟨t0, t1, t2, t3, t4, t5, t6, t7, t8, t9, t10, t11, hts, J⟩ := hI
                  subst hts
                  obtain rfl := J.out.f6 (hall ⟨6, Ground.data⟩ (by simp) (by rfl))
                  rw [if_pos (by rfl)]
                  have JB := J.out.hb
                  have hk := hK.out [t0, t1, t2, t3, t4, t5, _, _, t8, t9, t10, t11] x wx ⟨t0, t1, t2, t3, t4, t5, _, _, t8, t9, t10, t11, rfl, Lib.hid (J.out.step7 hi)⟩
                  have z0 := (HC6.out wx JB).1
                  have z1 := (HC6.out wx JB).2.1
                  have z2 := (HC6.out wx JB).2.2
                  simp only [putL, Act.put, List.getElem_toArray, List.getElem_cons_zero, List.getElem_cons_succ, List.setIfInBounds_toArray, List.set_cons_zero, List.set_cons_succ]
                  refine wp_load_pk (.tmp 43) rfl B (off + i * 3) q rfl z0 z1 z2 ?_
                  simp only [putL, Act.put, List.getElem_toArray, List.getElem_cons_zero, List.getElem_cons_succ, List.setIfInBounds_toArray, List.set_cons_zero, List.set_cons_succ]
                  simp only [putL, Act.put, List.getElem_toArray, List.getElem_cons_zero, List.getElem_cons_succ, List.setIfInBounds_toArray, List.set_cons_zero, List.set_cons_succ] at hk
                  exact hk
                case s8 =>
                  intro listed ts x wx hi hall hI K hK
                  obtain ⟨t0, t1, t2, t3, t4, t5, t6, t7, t8, t9, t10, t11, hts, J⟩ := hI
                  subst hts
                  rw [if_pos (by rfl)]
                  obtain rfl := J.out.f7 (hall ⟨7, Ground.data⟩ (by simp) (by rfl))
                  simp only [putL, Act.put, List.getElem_toArray, List.getElem_cons_zero, List.getElem_cons_succ, List.setIfInBounds_toArray, List.set_cons_zero, List.set_cons_succ]
                  go_simp
                  have hk := hK.out [t0, t1, t2, t3, t4, t5, t6, _, _, t9, t10, t11] x _ ⟨t0, t1, t2, t3, t4, t5, t6, _, _, t9, t10, t11, rfl, Lib.hid (J.out.step8 (ad := ⟨wx.heap.size, 0, none⟩) (o := .cells #[.int .i64 q.f, .int .i64 q.t, .int .i64 q.s] 76) hi (pkR_one wx q HQ64.out))⟩
                  simp only [putL, Act.put, List.getElem_toArray, List.getElem_cons_zero, List.getElem_cons_succ, List.setIfInBounds_toArray, List.set_cons_zero, List.set_cons_succ] at hk
                  exact hk
                case s9 =>
                  intro listed ts x wx hi hall hI K hK
                  obtain ⟨t0, t1, t2, t3, t4, t5, t6, t7, t8, t9, t10, t11, hts, J⟩ := hI
                  subst hts
                  rw [if_pos (by rfl)]
                  have h3 := hall ⟨3, Ground.data⟩ (by simp) (by rfl)
                  have h8 := hall ⟨8, Ground.data⟩ (by simp) (by rfl)
                  obtain ⟨a8, e8, hr8⟩ := J.out.f8 h8 (getD_no hi)
                  subst e8
                  simp only [putL, Act.put, List.getElem_toArray, List.getElem_cons_zero, List.getElem_cons_succ, List.setIfInBounds_toArray, List.set_cons_zero, List.set_cons_succ]
                  refine wp_append_pk (.tmp 40) (.tmp 45) rfl w6.heap.size t3 _ A rfl (J.out.f3 h3 (getD_no hi)) (some a8) 1 1 [q] rfl hr8 (by have := HAL.out; omega) J.out.hb.size ?_
                  intro v' w' ho hb
                  have hk := hK.out [t0, t1, t2, t3, t4, t5, t6, t7, _, v', t10, t11] x w' ⟨t0, t1, t2, t3, t4, t5, t6, t7, _, v', t10, t11, rfl, Lib.hid (J.out.step9 hi h3 h8 (owr_one ho) hb)⟩
                  simp only [putL, Act.put, List.getElem_toArray, List.getElem_cons_zero, List.getElem_cons_succ, List.setIfInBounds_toArray, List.set_cons_zero, List.set_cons_succ] at hk ⊢
                  exact hk
                case s10 =>
                  intro listed ts x wx hi hall hI K hK
                  obtain ⟨t0, t1, t2, t3, t4, t5, t6, t7, t8, t9, t10, t11, hts, J⟩ := hI
                  subst hts
                  rw [if_pos (by rfl)]
                  have hk := hK.out [t0, t1, t2, t3, t4, t5, t6, t7, t8, t9, _, t11] x wx ⟨t0, t1, t2, t3, t4, t5, t6, t7, t8, t9, _, t11, rfl, Lib.hid (J.out.step10 hi)⟩
                  simp only [putL, Act.put, List.getElem_toArray, List.getElem_cons_zero, List.getElem_cons_succ, List.setIfInBounds_toArray, List.set_cons_zero, List.set_cons_succ]
                  go_simp
                  simp only [putL, Act.put, List.getElem_toArray, List.getElem_cons_zero, List.getElem_cons_succ, List.setIfInBounds_toArray, List.set_cons_zero, List.set_cons_succ] at hk
                  exact hk
                case s11 =>
                  intro listed ts x wx hi hall hI K hK
                  obtain ⟨t0, t1, t2, t3, t4, t5, t6, t7, t8, t9, t10, t11, hts, J⟩ := hI
                  subst hts
                  rw [if_pos (by rfl)]
                  have h9 := hall ⟨9, Ground.data⟩ (by simp) (by rfl)
                  obtain rfl := J.out.f10 (hall ⟨10, Ground.data⟩ (by simp) (by rfl))
                  simp only [putL, Act.put, List.getElem_toArray, List.getElem_cons_zero, List.getElem_cons_succ, List.setIfInBounds_toArray, List.set_cons_zero, List.set_cons_succ]
                  refine wp_append_pk (.tmp 46) (.tmp 47) rfl w6.heap.size t9 _ (A ++ [q]) rfl (J.out.f9 h9 (getD_no hi)) aC nC cC C rfl (HRC.out.under J.out.hb) (by have := HAL.out; rw [List.length_append, List.length_singleton]; omega) J.out.hb.size ?_
                  intro v' w' ho hb
                  have hk := hK.out [t0, t1, t2, t3, t4, t5, t6, t7, t8, t9, _, v'] x w' ⟨t0, t1, t2, t3, t4, t5, t6, t7, t8, t9, _, v', rfl, Lib.hid (J.out.step11 hi h9 (owr_more HRC.out.len ho) hb)⟩
                  simp only [putL, Act.put, List.getElem_toArray, List.getElem_cons_zero, List.getElem_cons_succ, List.setIfInBounds_toArray, List.set_cons_zero, List.set_cons_succ] at hk ⊢
                  exact hk
                case s12 =>
                  intro listed ts x wx hi hall hI K hK
                  obtain ⟨t0, t1, t2, t3, t4, t5, t6, t7, t8, t9, t10, t11, hts, J⟩ := hI
                  subst hts
                  rw [if_pos (by rfl)]
                  simp only [putL, Act.put, List.getElem_toArray, List.getElem_cons_zero, List.getElem_cons_succ, List.setIfInBounds_toArray, List.set_cons_zero, List.set_cons_succ]
                  go_simp
                  have hk := hK.out [t0, t1, t2, t3, t4, t5, t6, t7, t8, t9, t10, t11] t11 wx ⟨t0, t1, t2, t3, t4, t5, t6, t7, t8, t9, t10, t11, rfl, Lib.hid (J.out.step12 hi (hall ⟨0, Ground.phase⟩ (by simp) (by rfl)) (hall ⟨11, Ground.data⟩ (by simp) (by rfl)))⟩
                  simp only [putL, Act.put, List.getElem_toArray, List.getElem_cons_zero, List.getElem_cons_succ, List.setIfInBounds_toArray, List.set_cons_zero, List.set_cons_succ] at hk
                  exact hk
              case hdone =>
                intro listed ts x wx hall hI
                obtain ⟨t0, t1, t2, t3, t4, t5, t6, t7, t8, t9, t10, t11, hts, J⟩ := hI
                subst hts
                have HEND := Lib.hid (And.intro (J.out.f12 (hall 12 (by decide))) (Below.trans HB6.out (J.out.hb.mono HB6.out.size)))
                clear J hall
                simp only [putL, Act.put, List.getElem_toArray, List.getElem_cons_zero, List.getElem_cons_succ, List.setIfInBounds_toArray, List.set_cons_zero, List.set_cons_succ]
                go_wp2_with fail
                go_roundw
                case rel => exact ⟨i + 1, by go_num, by omega, Lib.hid (by rw [HNEW.out]; exact ⟨OWr.mono HEND.out.1 HBW.out, HEND.out.2⟩), by omega⟩
                case measure => first | (simp [intOf]; done) | (simp [intOf]; omega)
          · injection hs0 with hav hii hcc
            subst hav hcc
            have hiL : (i : Int) ≤ 0 := by omega
            have HII := Lib.hid hii
            clear hii
            go_wp2_with fail
            go_quiet (fail)
            have HBm := Lib.hid (show Below w.heap.size w (wm.drewN nq) from by rw [HWD.out]; exact (HO.out.2.drewN nd).drewN nq)
            have hcv := HVm.out.le
            go_upto_region 8 with fail
            go_cut [6, 35, 36] (fun s6 s35 s36 wx => Hid (wx.ownsRow wm.heap.size 76 3 s6 (i - 0) (pkV (L.drop 0))) ∧ Hid (Below wm.heap.size wm wx))
            case first =>
              have HBd := Lib.hid ((Below.refl wm.heap.size wm).drewN nq)
              go_wp2_with fail
              go_meet
              case rel => exact ⟨Lib.hid (by rw [show i - 0 = 0 by have := HII.out; omega, show L.drop 0 = [] from List.length_eq_zero_iff.1 (by rw [List.length_drop, HLB.out.1]; have := HII.out; omega)]; exact World.ownsRow_nil _ _ _ _), HBd⟩
            case rest =>
              obtain ⟨HO6, HB6m⟩ := hcut
              obtain ⟨w6, rfl⟩ : ∃ u : World, u = wc := ⟨_, rfl⟩
              have HB6 := Lib.hid (show Below w.heap.size w w6 from by
                have h1 : Below w.heap.size w wm := by rw [HWD.out]; exact HO.out.2.drewN nd
                exact h1.trans (HB6m.out.mono h1.size))
              have HC6 := Lib.hid (show ∀ u, Below w6.heap.size w6 u → u.cell? ⟨B, off + i * 3, none⟩ = some (.int .i64 q.f) ∧ u.cell? ⟨B, off + i * 3 + 1, none⟩ = some (.int .i64 q.t) ∧ u.cell? ⟨B, off + i * 3 + 2, none⟩ = some (.int .i64 q.s) from fun u hu => by
                rcases ((H.out.under HB6.out).under hu).place with ⟨h0, _⟩ | ⟨B', off', ha', hc'⟩
                · omega
                · cases ha'; exact hc' i q HQ.out.1)
              have HBW := Lib.hid (show w.heap.size ≤ w6.heap.size from HB6.out.size)
              have HQ64 := Lib.hid (H.out.bd q (List.mem_of_getElem? HQ.out.1))
              obtain ⟨hlC, aC, cC, hvC, hC1, hC2, _, hC4⟩ := pkO_of_owns HO6.out
              obtain ⟨C, hC⟩ : ∃ C, L.drop 0 = C := ⟨_, rfl⟩
              obtain ⟨A, hA⟩ : ∃ A, L.take 0 = A := ⟨_, rfl⟩
              rw [hC] at hlC hC4
              have HRC := Lib.hid (show PkR w6 aC (i - 0) cC C from ⟨hlC, hC1, by omega, hC2, by
                rcases hC4 with ⟨_, h0⟩ | ⟨g', ha, _, ho⟩
                · exact .inl ⟨h0, fun _ _ => trivial⟩
                · exact .inr ⟨g', 0, ha, ho.cells⟩, fun y hy => HLB.out.2 y (by rw [← hC] at hy; exact List.mem_of_mem_drop hy)⟩)
              have HAL := Lib.hid (show A.length = 0 by rw [← hA, List.length_take, HLB.out.1]; omega)
              have HNEW := Lib.hid (show isort (l.take (i + 1)) = A ++ [q] ++ C from by
                rw [← hA, ← hC, ← HL.out]
                exact isort_at HQ.out.1 (by omega) (by rw [HL.out]; exact HM.out) (.inl rfl))
              have HVT := Lib.hid (show PkR w6 none 0 0 A from (by rw [← hA]; exact pkR_nil _))
              subst hvC
              obtain ⟨nC, hnC⟩ : ∃ nC, i - 0 = nC := ⟨_, rfl⟩
              rw [hnC] at HRC ⊢
              clear hlC hC1 hC2 hC4 hC hA HO6 hnC
              go_upto_region 9 with fail
              refine wp_region_invR 37 12 3 (fun ts x listed wx => ∃ t0 t1 t2 t3 t4 t5 t6 t7 t8 t9 t10 t11 : Value, ts = [t0, t1, t2, t3, t4, t5, t6, t7, t8, t9, t10, t11] ∧ Hid (OJ (.slice none i 0) (.int .i64 0) (.slice none 0 0) (.slice (some ⟨B, off, none⟩) n cap) (.int .i64 i) (.pointer (some ⟨B, off + i * 3, none⟩)) (.agg #[.int .i64 q.f, .int .i64 q.t, .int .i64 q.s]) (.slice aC nC cC) q w6.heap.size A C w6 t0 t1 t2 t3 t4 t5 t6 t7 t8 t9 t10 t11 x listed wx)) (by kernel_rfl) (by kernel_rfl) ?h0 ?hstep ?hdone
              case h0 => exact ⟨_, _, _, _, _, _, _, _, _, _, _, _, rfl, Lib.hid (OJ.start _ _ _ _ _ _ _ _ _ _ _ _)⟩
              case hstep =>
                refine (StepsR.cons (j := 1) rfl ?s0 (StepsR.cons (j := 2) rfl ?s1 (StepsR.cons (j := 3) rfl ?s2 (StepsR.cons (j := 4) rfl ?s3 (StepsR.cons (j := 5) rfl ?s4 (StepsR.cons (j := 6) rfl ?s5 (StepsR.cons (j := 7) rfl ?s6 (StepsR.cons (j := 8) rfl ?s7 (StepsR.cons (j := 9) rfl ?s8 (StepsR.cons (j := 10) rfl ?s9 (StepsR.cons (j := 11) rfl ?s10 (StepsR.cons (j := 12) rfl ?s11 (StepsR.cons (j := 13) rfl ?s12 StepsR.nil)))))))))))))
                case s0 =>
                  intro listed ts x wx hi hall hI K hK
                  obtain ⟨t0, t1, t2, t3, t4, t5, t6, t7, t8, t9, t10, t11, hts, J⟩ := hI
                  subst hts
                  obtain rfl := J.out.fx (getD_no hi)
                  rw [if_pos (by rfl)]
                  have hk := hK.out [_, t1, t2, t3, t4, t5, t6, t7, t8, t9, t10, t11] _ wx ⟨_, t1, t2, t3, t4, t5, t6, t7, t8, t9, t10, t11, rfl, Lib.hid (J.out.step0 hi)⟩
                  simp only [putL, Act.put, List.getElem_toArray, List.getElem_cons_zero, List.getElem_cons_succ, List.setIfInBounds_toArray, List.set_cons_zero, List.set_cons_succ]
                  go_simp
                  simp only [putL, Act.put, List.getElem_toArray, List.getElem_cons_zero, List.getElem_cons_succ, List.setIfInBounds_toArray, List.set_cons_zero, List.set_cons_succ] at hk
                  exact hk
                case s1 =>
                  intro listed ts x wx hi hall hI K hK
                  obtain ⟨t0, t1, t2, t3, t4, t5, t6, t7, t8, t9, t10, t11, hts, J⟩ := hI
                  subst hts
                  rw [if_pos (by rfl)]
                  have hk := hK.out [t0, _, t2, t3, t4, t5, t6, t7, t8, t9, t10, t11] x wx ⟨t0, _, t2, t3, t4, t5, t6, t7, t8, t9, t10, t11, rfl, Lib.hid (J.out.step1 hi)⟩
                  simp only [putL, Act.put, List.getElem_toArray, List.getElem_cons_zero, List.getElem_cons_succ, List.setIfInBounds_toArray, List.set_cons_zero, List.set_cons_succ]
                  go_simp
                  simp only [putL, Act.put, List.getElem_toArray, List.getElem_cons_zero, List.getElem_cons_succ, List.setIfInBounds_toArray, List.set_cons_zero, List.set_cons_succ] at hk
                  exact hk
                case s2 =>
                  intro listed ts x wx hi hall hI K hK
                  obtain ⟨t0, t1, t2, t3, t4, t5, t6, t7, t8, t9, t10, t11, hts, J⟩ := hI
                  subst hts
                  obtain rfl := J.out.f0 (hall ⟨0, Ground.data⟩ (by simp) (by rfl))
                  obtain rfl := J.out.f1 (hall ⟨1, Ground.data⟩ (by simp) (by rfl))
                  rw [if_pos (by rfl)]
                  have hk := hK.out [_, _, _, t3, t4, t5, t6, t7, t8, t9, t10, t11] x wx ⟨_, _, _, t3, t4, t5, t6, t7, t8, t9, t10, t11, rfl, Lib.hid (J.out.step2 hi)⟩
                  simp only [putL, Act.put, List.getElem_toArray, List.getElem_cons_zero, List.getElem_cons_succ, List.setIfInBounds_toArray, List.set_cons_zero, List.set_cons_succ]
                  go_simp
                  simp only [putL, Act.put, List.getElem_toArray, List.getElem_cons_zero, List.getElem_cons_succ, List.setIfInBounds_toArray, List.set_cons_zero, List.set_cons_succ] at hk
                  exact hk
                case s3 =>
                  intro listed ts x wx hi hall hI K hK
                  obtain ⟨t0, t1, t2, t3, t4, t5, t6, t7, t8, t9, t10, t11, hts, J⟩ := hI
                  subst hts
                  rw [if_pos (by rfl)]
                  obtain rfl := J.out.f2 (hall ⟨2, Ground.data⟩ (by simp) (by rfl))
                  simp only [putL, Act.put, List.getElem_toArray, List.getElem_cons_zero, List.getElem_cons_succ, List.setIfInBounds_toArray, List.set_cons_zero, List.set_cons_succ]
                  refine wp_append_pk (.const (.slice none 0 0)) (.tmp 39) rfl wx.heap.size (.slice none 0 0) 0 [] rfl (World.ownsRow_nil _ _ _ _) none 0 0 A rfl (HVT.out.under J.out.hb) (by omega) (Nat.le_refl _) ?_
                  intro v' w' ho hb
                  have hk := hK.out [t0, t1, _, v', t4, t5, t6, t7, t8, t9, t10, t11] x w' ⟨t0, t1, _, v', t4, t5, t6, t7, t8, t9, t10, t11, rfl, Lib.hid (J.out.step3 hi (owr_nil HAL.out ho) hb)⟩
                  simp only [putL, Act.put, List.getElem_toArray, List.getElem_cons_zero, List.getElem_cons_succ, List.setIfInBounds_toArray, List.set_cons_zero, List.set_cons_succ] at hk ⊢
                  exact hk
                case s4 =>
                  intro listed ts x wx hi hall hI K hK
                  obtain ⟨t0, t1, t2, t3, t4, t5, t6, t7, t8, t9, t10, t11, hts, J⟩ := hI
                  subst hts
                  rw [if_pos (by rfl)]
                  have hk := hK.out [t0, t1, t2, t3, _, t5, t6, t7, t8, t9, t10, t11] x wx ⟨t0, t1, t2, t3, _, t5, t6, t7, t8, t9, t10, t11, rfl, Lib.hid (J.out.step4 hi)⟩
                  simp only [putL, Act.put, List.getElem_toArray, List.getElem_cons_zero, List.getElem_cons_succ, List.setIfInBounds_toArray, List.set_cons_zero, List.set_cons_succ]
                  go_simp
                  simp only [putL, Act.put, List.getElem_toArray, List.getElem_cons_zero, List.getElem_cons_succ, List.setIfInBounds_toArray, List.set_cons_zero, List.set_cons_succ] at hk
                  exact hk
                case s5 =>
                  intro listed ts x wx hi hall hI K hK
                  obtain ⟨t0, t1, t2, t3, t4, t5, t6, t7, t8, t9, t10, t11, hts, J⟩ := hI
                  subst hts
                  rw [if_pos (by rfl)]
                  have hk := hK.out [t0, t1, t2, t3, t4, _, t6, t7, t8, t9, t10, t11] x wx ⟨t0, t1, t2, t3, t4, _, t6, t7, t8, t9, t10, t11, rfl, Lib.hid (J.out.step5 hi)⟩
                  simp only [putL, Act.put, List.getElem_toArray, List.getElem_cons_zero, List.getElem_cons_succ, List.setIfInBounds_toArray, List.set_cons_zero, List.set_cons_succ]
                  go_simp
                  simp only [putL, Act.put, List.getElem_toArray, List.getElem_cons_zero, List.getElem_cons_succ, List.setIfInBounds_toArray, List.set_cons_zero, List.set_cons_succ] at hk
                  exact hk
                case s6 =>
                  intro listed ts x wx hi hall hI K hK
                  obtain ⟨t0, t1, t2, t3, t4, t5, t6, t7, t8, t9, t10, t11, hts, J⟩ := hI
                  subst hts
                  obtain rfl := J.out.f4 (hall ⟨4, Ground.data⟩ (by simp) (by rfl))
                  obtain rfl := J.out.f5 (hall ⟨5, Ground.data⟩ (by simp) (by rfl))
                  rw [if_pos (by rfl)]
                  have hk := hK.out [t0, t1, t2, t3, _, _, _, t7, t8, t9, t10, t11] x wx ⟨t0, t1, t2, t3, _, _, _, t7, t8, t9, t10, t11, rfl, Lib.hid (J.out.step6 hi)⟩
                  simp only [putL, Act.put, List.getElem_toArray, List.getElem_cons_zero, List.getElem_cons_succ, List.setIfInBounds_toArray, List.set_cons_zero, List.set_cons_succ]
                  go_simp
                  simp only [putL, Act.put, List.getElem_toArray, List.getElem_cons_zero, List.getElem_cons_succ, List.setIfInBounds_toArray, List.set_cons_zero, List.set_cons_succ] at hk
                  exact hk
                case s7 =>
                  intro listed ts x wx hi hall hI K hK
                  obtain ⟨t0, t1, t2, t3, t4, t5, t6, t7, t8, t9, t10, t11, hts, J⟩ := hI
                  subst hts
                  obtain rfl := J.out.f6 (hall ⟨6, Ground.data⟩ (by simp) (by rfl))
                  rw [if_pos (by rfl)]
                  have JB := J.out.hb
                  have hk := hK.out [t0, t1, t2, t3, t4, t5, _, _, t8, t9, t10, t11] x wx ⟨t0, t1, t2, t3, t4, t5, _, _, t8, t9, t10, t11, rfl, Lib.hid (J.out.step7 hi)⟩
                  have z0 := (HC6.out wx JB).1
                  have z1 := (HC6.out wx JB).2.1
                  have z2 := (HC6.out wx JB).2.2
                  simp only [putL, Act.put, List.getElem_toArray, List.getElem_cons_zero, List.getElem_cons_succ, List.setIfInBounds_toArray, List.set_cons_zero, List.set_cons_succ]
                  refine wp_load_pk (.tmp 43) rfl B (off + i * 3) q rfl z0 z1 z2 ?_
                  simp only [putL, Act.put, List.getElem_toArray, List.getElem_cons_zero, List.getElem_cons_succ, List.setIfInBounds_toArray, List.set_cons_zero, List.set_cons_succ]
                  simp only [putL, Act.put, List.getElem_toArray, List.getElem_cons_zero, List.getElem_cons_succ, List.setIfInBounds_toArray, List.set_cons_zero, List.set_cons_succ] at hk
                  exact hk
                case s8 =>
                  intro listed ts x wx hi hall hI K hK
                  obtain ⟨t0, t1, t2, t3, t4, t5, t6, t7, t8, t9, t10, t11, hts, J⟩ := hI
                  subst hts
                  rw [if_pos (by rfl)]
                  obtain rfl := J.out.f7 (hall ⟨7, Ground.data⟩ (by simp) (by rfl))
                  simp only [putL, Act.put, List.getElem_toArray, List.getElem_cons_zero, List.getElem_cons_succ, List.setIfInBounds_toArray, List.set_cons_zero, List.set_cons_succ]
                  go_simp
                  have hk := hK.out [t0, t1, t2, t3, t4, t5, t6, _, _, t9, t10, t11] x _ ⟨t0, t1, t2, t3, t4, t5, t6, _, _, t9, t10, t11, rfl, Lib.hid (J.out.step8 (ad := ⟨wx.heap.size, 0, none⟩) (o := .cells #[.int .i64 q.f, .int .i64 q.t, .int .i64 q.s] 76) hi (pkR_one wx q HQ64.out))⟩
                  simp only [putL, Act.put, List.getElem_toArray, List.getElem_cons_zero, List.getElem_cons_succ, List.setIfInBounds_toArray, List.set_cons_zero, List.set_cons_succ] at hk
                  exact hk
                case s9 =>
                  intro listed ts x wx hi hall hI K hK
                  obtain ⟨t0, t1, t2, t3, t4, t5, t6, t7, t8, t9, t10, t11, hts, J⟩ := hI
                  subst hts
                  rw [if_pos (by rfl)]
                  have h3 := hall ⟨3, Ground.data⟩ (by simp) (by rfl)
                  have h8 := hall ⟨8, Ground.data⟩ (by simp) (by rfl)
                  obtain ⟨a8, e8, hr8⟩ := J.out.f8 h8 (getD_no hi)
                  subst e8
                  simp only [putL, Act.put, List.getElem_toArray, List.getElem_cons_zero, List.getElem_cons_succ, List.setIfInBounds_toArray, List.set_cons_zero, List.set_cons_succ]
                  refine wp_append_pk (.tmp 40) (.tmp 45) rfl w6.heap.size t3 _ A rfl (J.out.f3 h3 (getD_no hi)) (some a8) 1 1 [q] rfl hr8 (by have := HAL.out; omega) J.out.hb.size ?_
                  intro v' w' ho hb
                  have hk := hK.out [t0, t1, t2, t3, t4, t5, t6, t7, _, v', t10, t11] x w' ⟨t0, t1, t2, t3, t4, t5, t6, t7, _, v', t10, t11, rfl, Lib.hid (J.out.step9 hi h3 h8 (owr_one ho) hb)⟩
                  simp only [putL, Act.put, List.getElem_toArray, List.getElem_cons_zero, List.getElem_cons_succ, List.setIfInBounds_toArray, List.set_cons_zero, List.set_cons_succ] at hk ⊢
                  exact hk
                case s10 =>
                  intro listed ts x wx hi hall hI K hK
                  obtain ⟨t0, t1, t2, t3, t4, t5, t6, t7, t8, t9, t10, t11, hts, J⟩ := hI
                  subst hts
                  rw [if_pos (by rfl)]
                  have hk := hK.out [t0, t1, t2, t3, t4, t5, t6, t7, t8, t9, _, t11] x wx ⟨t0, t1, t2, t3, t4, t5, t6, t7, t8, t9, _, t11, rfl, Lib.hid (J.out.step10 hi)⟩
                  simp only [putL, Act.put, List.getElem_toArray, List.getElem_cons_zero, List.getElem_cons_succ, List.setIfInBounds_toArray, List.set_cons_zero, List.set_cons_succ]
                  go_simp
                  simp only [putL, Act.put, List.getElem_toArray, List.getElem_cons_zero, List.getElem_cons_succ, List.setIfInBounds_toArray, List.set_cons_zero, List.set_cons_succ] at hk
                  exact hk
                case s11 =>
                  intro listed ts x wx hi hall hI K hK
                  obtain ⟨t0, t1, t2, t3, t4, t5, t6, t7, t8, t9, t10, t11, hts, J⟩ := hI
                  subst hts
                  rw [if_pos (by rfl)]
                  have h9 := hall ⟨9, Ground.data⟩ (by simp) (by rfl)
                  obtain rfl := J.out.f10 (hall ⟨10, Ground.data⟩ (by simp) (by rfl))
                  simp only [putL, Act.put, List.getElem_toArray, List.getElem_cons_zero, List.getElem_cons_succ, List.setIfInBounds_toArray, List.set_cons_zero, List.set_cons_succ]
                  refine wp_append_pk (.tmp 46) (.tmp 47) rfl w6.heap.size t9 _ (A ++ [q]) rfl (J.out.f9 h9 (getD_no hi)) aC nC cC C rfl (HRC.out.under J.out.hb) (by have := HAL.out; rw [List.length_append, List.length_singleton]; omega) J.out.hb.size ?_
                  intro v' w' ho hb
                  have hk := hK.out [t0, t1, t2, t3, t4, t5, t6, t7, t8, t9, _, v'] x w' ⟨t0, t1, t2, t3, t4, t5, t6, t7, t8, t9, _, v', rfl, Lib.hid (J.out.step11 hi h9 (owr_more HRC.out.len ho) hb)⟩
                  simp only [putL, Act.put, List.getElem_toArray, List.getElem_cons_zero, List.getElem_cons_succ, List.setIfInBounds_toArray, List.set_cons_zero, List.set_cons_succ] at hk ⊢
                  exact hk
                case s12 =>
                  intro listed ts x wx hi hall hI K hK
                  obtain ⟨t0, t1, t2, t3, t4, t5, t6, t7, t8, t9, t10, t11, hts, J⟩ := hI
                  subst hts
                  rw [if_pos (by rfl)]
                  simp only [putL, Act.put, List.getElem_toArray, List.getElem_cons_zero, List.getElem_cons_succ, List.setIfInBounds_toArray, List.set_cons_zero, List.set_cons_succ]
                  go_simp
                  have hk := hK.out [t0, t1, t2, t3, t4, t5, t6, t7, t8, t9, t10, t11] t11 wx ⟨t0, t1, t2, t3, t4, t5, t6, t7, t8, t9, t10, t11, rfl, Lib.hid (J.out.step12 hi (hall ⟨0, Ground.phase⟩ (by simp) (by rfl)) (hall ⟨11, Ground.data⟩ (by simp) (by rfl)))⟩
                  simp only [putL, Act.put, List.getElem_toArray, List.getElem_cons_zero, List.getElem_cons_succ, List.setIfInBounds_toArray, List.set_cons_zero, List.set_cons_succ] at hk
                  exact hk
              case hdone =>
                intro listed ts x wx hall hI
                obtain ⟨t0, t1, t2, t3, t4, t5, t6, t7, t8, t9, t10, t11, hts, J⟩ := hI
                subst hts
                have HEND := Lib.hid (And.intro (J.out.f12 (hall 12 (by decide))) (Below.trans HB6.out (J.out.hb.mono HB6.out.size)))
                clear J hall
                simp only [putL, Act.put, List.getElem_toArray, List.getElem_cons_zero, List.getElem_cons_succ, List.setIfInBounds_toArray, List.set_cons_zero, List.set_cons_succ]
                go_wp2_with fail
                go_roundw
                case rel => exact ⟨i + 1, by go_num, by omega, Lib.hid (by rw [HNEW.out]; exact ⟨OWr.mono HEND.out.1 HBW.out, HEND.out.2⟩), by omega⟩
                case measure => first | (simp [intOf]; done) | (simp [intOf]; omega)
        · obtain ⟨k, rfl⟩ : ∃ k, m = k + 1 := ⟨m - 1, by omega⟩
          obtain ⟨B2, off2, y, ha2, hcs2, hy, hyb⟩ := HVm.out.at (show k < i by omega)
          obtain ⟨d0, d1, d2⟩ := hcs2 k y hy
          have HY := Lib.hid hy
          have e0 : ((k : Int) + 1).toNat = k + 1 := by omega
          have p0 : (0 : Int) < (k : Int) + 1 := by omega
          have hki : (k : Int) < (i : Int) := by omega
          have hwp : IntKind.i64.wrap (k : Int) = (k : Int) := IntWalk.i64_in _ ⟨by omega, by omega⟩
          clear hcs2 hy hyb
          subst ha2
          by_cases ht : q.t < y.t
          · have hb : decide (q.t < y.t) = true := decide_eq_true ht
            have HN := Lib.hid (HM.out.step HY.out ht)
            go_wp2_with fail
            go_quiet (fail)
            go_wp2_with fail
            go_roundw
            case rel => exact ⟨k, by go_num, by omega, HN, nd + nq, by rw [HWD.out]; exact drewN_two _ _ _⟩
            case measure => first | (simp [intOf]; done) | (simp [intOf]; omega)
          · have hb : decide (q.t < y.t) = false := decide_eq_false ht
            go_wp2_with fail
            go_quiet (fail)
            have hkc : (k : Int) + 1 ≤ (i : Int) := by omega
            have HBm := Lib.hid (show Below w.heap.size w (wm.drewN nq) from by rw [HWD.out]; exact (HO.out.2.drewN nd).drewN nq)
            have hcv := HVm.out.le
            go_upto_region 8 with fail
            go_cut [6, 35, 36] (fun s6 s35 s36 wx => Hid (wx.ownsRow wm.heap.size 76 3 s6 (i - (k + 1)) (pkV (L.drop (k + 1)))) ∧ Hid (Below wm.heap.size wm wx))
            case first =>
              have hsz : (wm.drewN nq).heap.size = wm.heap.size := rfl
              have HBd := Lib.hid ((Below.refl wm.heap.size wm).drewN nq)
              by_cases hck : cv = k + 1
              · have HIK := Lib.hid (show i = k + 1 by omega)
                have HVn := Lib.hid (show PkR (wm.drewN nq) (some ⟨B2, off2, none⟩) 0 0 [] from ⟨rfl, Nat.le_refl _, by omega, by omega, .inl ⟨rfl, fun _ _ => trivial⟩, fun _ h => by cases h⟩)
                have HLD := Lib.hid (show L.drop (k + 1) = [] from List.drop_eq_nil_of_le (by rw [HLB.out.1, HIK.out]; exact Nat.le_refl _))
                subst hck
                go_wp2_with (at_builtin; (refine wpList_append_pk rfl _ _ rfl wm.heap.size (.slice none 0 0) 0 [] rfl (World.ownsRow_nil _ _ _ _) (some ⟨B2, off2, none⟩) 0 0 [] rfl HVn.out (by omega) (Nat.le_refl _) ?_))
                intro v6 w6 ho6 hb6
                have HO6 := Lib.hid ho6
                have HB6 := Lib.hid (HBd.out.trans hb6)
                clear ho6 hb6
                go_wp2_with fail
                go_meet
                case rel => exact ⟨by rw [HLD.out, show i - (k + 1) = 0 by have := HIK.out; omega]; exact HO6.out, HB6⟩
              · have HVn := Lib.hid ((HVm.out.under ((Below.refl _ _).drewN nq)).drop (k + 1) (by omega))
                go_wp2_with (at_builtin; (refine wpList_append_pk rfl _ _ rfl wm.heap.size (.slice none 0 0) 0 [] rfl (World.ownsRow_nil _ _ _ _) (some ⟨B2, off2 + (k + 1) * 3, none⟩) (i - (k + 1)) (cv - (k + 1)) (L.drop (k + 1)) rfl HVn.out (by omega) (Nat.le_refl _) ?_))
                intro v6 w6 ho6 hb6
                have HO6 := Lib.hid (show w6.ownsRow wm.heap.size 76 3 v6 (i - (k + 1)) (pkV (L.drop (k + 1))) from by first | exact ho6 | (rwa [Nat.zero_add, List.nil_append] at ho6))
                have HB6 := Lib.hid (HBd.out.trans hb6)
                clear ho6 hb6
                go_wp2_with fail
                go_meet
                case rel => exact ⟨HO6, HB6⟩
            case rest =>
              obtain ⟨HO6, HB6m⟩ := hcut
              obtain ⟨w6, rfl⟩ : ∃ u : World, u = wc := ⟨_, rfl⟩
              have HB6 := Lib.hid (show Below w.heap.size w w6 from by
                have h1 : Below w.heap.size w wm := by rw [HWD.out]; exact HO.out.2.drewN nd
                exact h1.trans (HB6m.out.mono h1.size))
              have HC6 := Lib.hid (show ∀ u, Below w6.heap.size w6 u → u.cell? ⟨B, off + i * 3, none⟩ = some (.int .i64 q.f) ∧ u.cell? ⟨B, off + i * 3 + 1, none⟩ = some (.int .i64 q.t) ∧ u.cell? ⟨B, off + i * 3 + 2, none⟩ = some (.int .i64 q.s) from fun u hu => by
                rcases ((H.out.under HB6.out).under hu).place with ⟨h0, _⟩ | ⟨B', off', ha', hc'⟩
                · omega
                · cases ha'; exact hc' i q HQ.out.1)
              have HBW := Lib.hid (show w.heap.size ≤ w6.heap.size from HB6.out.size)
              have HQ64 := Lib.hid (H.out.bd q (List.mem_of_getElem? HQ.out.1))
              obtain ⟨hlC, aC, cC, hvC, hC1, hC2, _, hC4⟩ := pkO_of_owns HO6.out
              obtain ⟨C, hC⟩ : ∃ C, L.drop (k + 1) = C := ⟨_, rfl⟩
              obtain ⟨A, hA⟩ : ∃ A, L.take (k + 1) = A := ⟨_, rfl⟩
              rw [hC] at hlC hC4
              have HRC := Lib.hid (show PkR w6 aC (i - (k + 1)) cC C from ⟨hlC, hC1, by omega, hC2, by
                rcases hC4 with ⟨_, h0⟩ | ⟨g', ha, _, ho⟩
                · exact .inl ⟨h0, fun _ _ => trivial⟩
                · exact .inr ⟨g', 0, ha, ho.cells⟩, fun y hy => HLB.out.2 y (by rw [← hC] at hy; exact List.mem_of_mem_drop hy)⟩)
              have HAL := Lib.hid (show A.length = (k + 1) by rw [← hA, List.length_take, HLB.out.1]; omega)
              have HNEW := Lib.hid (show isort (l.take (i + 1)) = A ++ [q] ++ C from by
                rw [← hA, ← hC, ← HL.out]
                exact isort_at HQ.out.1 (by omega) (by rw [HL.out]; exact HM.out) (.inr ⟨y, by rw [HL.out, Nat.add_sub_cancel]; exact HY.out, by omega⟩))
              have HVT := Lib.hid (show PkR w6 (some ⟨B2, off2, none⟩) (k + 1) cv A from (by rw [← hA]; exact (HVm.out.under HB6m.out).take (k + 1) (by omega)))
              subst hvC
              obtain ⟨nC, hnC⟩ : ∃ nC, i - (k + 1) = nC := ⟨_, rfl⟩
              rw [hnC] at HRC ⊢
              clear hlC hC1 hC2 hC4 hC hA HO6 hnC
              have p9 : (0 : Int) ≤ (k : Int) + 1 := by omega
              have p8 : (k : Int) + 1 ≤ (cv : Int) := by omega
              go_upto_region 9 with fail
              refine wp_region_invR 37 12 3 (fun ts x listed wx => ∃ t0 t1 t2 t3 t4 t5 t6 t7 t8 t9 t10 t11 : Value, ts = [t0, t1, t2, t3, t4, t5, t6, t7, t8, t9, t10, t11] ∧ Hid (OJ (.slice (some ⟨B2, off2, none⟩) i cv) (.int .i64 ((k : Int) + 1)) (.slice (some ⟨B2, off2, none⟩) (k + 1) cv) (.slice (some ⟨B, off, none⟩) n cap) (.int .i64 i) (.pointer (some ⟨B, off + i * 3, none⟩)) (.agg #[.int .i64 q.f, .int .i64 q.t, .int .i64 q.s]) (.slice aC nC cC) q w6.heap.size A C w6 t0 t1 t2 t3 t4 t5 t6 t7 t8 t9 t10 t11 x listed wx)) (by kernel_rfl) (by kernel_rfl) ?h0 ?hstep ?hdone
              case h0 => exact ⟨_, _, _, _, _, _, _, _, _, _, _, _, rfl, Lib.hid (OJ.start _ _ _ _ _ _ _ _ _ _ _ _)⟩
              case hstep =>
                refine (StepsR.cons (j := 1) rfl ?s0 (StepsR.cons (j := 2) rfl ?s1 (StepsR.cons (j := 3) rfl ?s2 (StepsR.cons (j := 4) rfl ?s3 (StepsR.cons (j := 5) rfl ?s4 (StepsR.cons (j := 6) rfl ?s5 (StepsR.cons (j := 7) rfl ?s6 (StepsR.cons (j := 8) rfl ?s7 (StepsR.cons (j := 9) rfl ?s8 (StepsR.cons (j := 10) rfl ?s9 (StepsR.cons (j := 11) rfl ?s10 (StepsR.cons (j := 12) rfl ?s11 (StepsR.cons (j := 13) rfl ?s12 StepsR.nil)))))))))))))
                case s0 =>
                  intro listed ts x wx hi hall hI K hK
                  obtain ⟨t0, t1, t2, t3, t4, t5, t6, t7, t8, t9, t10, t11, hts, J⟩ := hI
                  subst hts
                  obtain rfl := J.out.fx (getD_no hi)
                  rw [if_pos (by rfl)]
                  have hk := hK.out [_, t1, t2, t3, t4, t5, t6, t7, t8, t9, t10, t11] _ wx ⟨_, t1, t2, t3, t4, t5, t6, t7, t8, t9, t10, t11, rfl, Lib.hid (J.out.step0 hi)⟩
                  simp only [putL, Act.put, List.getElem_toArray, List.getElem_cons_zero, List.getElem_cons_succ, List.setIfInBounds_toArray, List.set_cons_zero, List.set_cons_succ]
                  go_simp
                  simp only [putL, Act.put, List.getElem_toArray, List.getElem_cons_zero, List.getElem_cons_succ, List.setIfInBounds_toArray, List.set_cons_zero, List.set_cons_succ] at hk
                  exact hk
                case s1 =>
                  intro listed ts x wx hi hall hI K hK
                  obtain ⟨t0, t1, t2, t3, t4, t5, t6, t7, t8, t9, t10, t11, hts, J⟩ := hI
                  subst hts
                  rw [if_pos (by rfl)]
                  have hk := hK.out [t0, _, t2, t3, t4, t5, t6, t7, t8, t9, t10, t11] x wx ⟨t0, _, t2, t3, t4, t5, t6, t7, t8, t9, t10, t11, rfl, Lib.hid (J.out.step1 hi)⟩
                  simp only [putL, Act.put, List.getElem_toArray, List.getElem_cons_zero, List.getElem_cons_succ, List.setIfInBounds_toArray, List.set_cons_zero, List.set_cons_succ]
                  go_simp
                  simp only [putL, Act.put, List.getElem_toArray, List.getElem_cons_zero, List.getElem_cons_succ, List.setIfInBounds_toArray, List.set_cons_zero, List.set_cons_succ] at hk
                  exact hk
                case s2 =>
                  intro listed ts x wx hi hall hI K hK
                  obtain ⟨t0, t1, t2, t3, t4, t5, t6, t7, t8, t9, t10, t11, hts, J⟩ := hI
                  subst hts
                  obtain rfl := J.out.f0 (hall ⟨0, Ground.data⟩ (by simp) (by rfl))
                  obtain rfl := J.out.f1 (hall ⟨1, Ground.data⟩ (by simp) (by rfl))
                  rw [if_pos (by rfl)]
                  have hk := hK.out [_, _, _, t3, t4, t5, t6, t7, t8, t9, t10, t11] x wx ⟨_, _, _, t3, t4, t5, t6, t7, t8, t9, t10, t11, rfl, Lib.hid (J.out.step2 hi)⟩
                  simp only [putL, Act.put, List.getElem_toArray, List.getElem_cons_zero, List.getElem_cons_succ, List.setIfInBounds_toArray, List.set_cons_zero, List.set_cons_succ]
                  go_simp
                  simp only [putL, Act.put, List.getElem_toArray, List.getElem_cons_zero, List.getElem_cons_succ, List.setIfInBounds_toArray, List.set_cons_zero, List.set_cons_succ] at hk
                  exact hk
                case s3 =>
                  intro listed ts x wx hi hall hI K hK
                  obtain ⟨t0, t1, t2, t3, t4, t5, t6, t7, t8, t9, t10, t11, hts, J⟩ := hI
                  subst hts
                  rw [if_pos (by rfl)]
                  obtain rfl := J.out.f2 (hall ⟨2, Ground.data⟩ (by simp) (by rfl))
                  simp only [putL, Act.put, List.getElem_toArray, List.getElem_cons_zero, List.getElem_cons_succ, List.setIfInBounds_toArray, List.set_cons_zero, List.set_cons_succ]
                  refine wp_append_pk (.const (.slice none 0 0)) (.tmp 39) rfl wx.heap.size (.slice none 0 0) 0 [] rfl (World.ownsRow_nil _ _ _ _) (some ⟨B2, off2, none⟩) (k + 1) cv A rfl (HVT.out.under J.out.hb) (by omega) (Nat.le_refl _) ?_
                  intro v' w' ho hb
                  have hk := hK.out [t0, t1, _, v', t4, t5, t6, t7, t8, t9, t10, t11] x w' ⟨t0, t1, _, v', t4, t5, t6, t7, t8, t9, t10, t11, rfl, Lib.hid (J.out.step3 hi (owr_nil HAL.out ho) hb)⟩
                  simp only [putL, Act.put, List.getElem_toArray, List.getElem_cons_zero, List.getElem_cons_succ, List.setIfInBounds_toArray, List.set_cons_zero, List.set_cons_succ] at hk ⊢
                  exact hk
                case s4 =>
                  intro listed ts x wx hi hall hI K hK
                  obtain ⟨t0, t1, t2, t3, t4, t5, t6, t7, t8, t9, t10, t11, hts, J⟩ := hI
                  subst hts
                  rw [if_pos (by rfl)]
                  have hk := hK.out [t0, t1, t2, t3, _, t5, t6, t7, t8, t9, t10, t11] x wx ⟨t0, t1, t2, t3, _, t5, t6, t7, t8, t9, t10, t11, rfl, Lib.hid (J.out.step4 hi)⟩
                  simp only [putL, Act.put, List.getElem_toArray, List.getElem_cons_zero, List.getElem_cons_succ, List.setIfInBounds_toArray, List.set_cons_zero, List.set_cons_succ]
                  go_simp
                  simp only [putL, Act.put, List.getElem_toArray, List.getElem_cons_zero, List.getElem_cons_succ, List.setIfInBounds_toArray, List.set_cons_zero, List.set_cons_succ] at hk
                  exact hk
                case s5 =>
                  intro listed ts x wx hi hall hI K hK
                  obtain ⟨t0, t1, t2, t3, t4, t5, t6, t7, t8, t9, t10, t11, hts, J⟩ := hI
                  subst hts
                  rw [if_pos (by rfl)]
                  have hk := hK.out [t0, t1, t2, t3, t4, _, t6, t7, t8, t9, t10, t11] x wx ⟨t0, t1, t2, t3, t4, _, t6, t7, t8, t9, t10, t11, rfl, Lib.hid (J.out.step5 hi)⟩
                  simp only [putL, Act.put, List.getElem_toArray, List.getElem_cons_zero, List.getElem_cons_succ, List.setIfInBounds_toArray, List.set_cons_zero, List.set_cons_succ]
                  go_simp
                  simp only [putL, Act.put, List.getElem_toArray, List.getElem_cons_zero, List.getElem_cons_succ, List.setIfInBounds_toArray, List.set_cons_zero, List.set_cons_succ] at hk
                  exact hk
                case s6 =>
                  intro listed ts x wx hi hall hI K hK
                  obtain ⟨t0, t1, t2, t3, t4, t5, t6, t7, t8, t9, t10, t11, hts, J⟩ := hI
                  subst hts
                  obtain rfl := J.out.f4 (hall ⟨4, Ground.data⟩ (by simp) (by rfl))
                  obtain rfl := J.out.f5 (hall ⟨5, Ground.data⟩ (by simp) (by rfl))
                  rw [if_pos (by rfl)]
                  have hk := hK.out [t0, t1, t2, t3, _, _, _, t7, t8, t9, t10, t11] x wx ⟨t0, t1, t2, t3, _, _, _, t7, t8, t9, t10, t11, rfl, Lib.hid (J.out.step6 hi)⟩
                  simp only [putL, Act.put, List.getElem_toArray, List.getElem_cons_zero, List.getElem_cons_succ, List.setIfInBounds_toArray, List.set_cons_zero, List.set_cons_succ]
                  go_simp
                  simp only [putL, Act.put, List.getElem_toArray, List.getElem_cons_zero, List.getElem_cons_succ, List.setIfInBounds_toArray, List.set_cons_zero, List.set_cons_succ] at hk
                  exact hk
                case s7 =>
                  intro listed ts x wx hi hall hI K hK
                  obtain ⟨t0, t1, t2, t3, t4, t5, t6, t7, t8, t9, t10, t11, hts, J⟩ := hI
                  subst hts
                  obtain rfl := J.out.f6 (hall ⟨6, Ground.data⟩ (by simp) (by rfl))
                  rw [if_pos (by rfl)]
                  have JB := J.out.hb
                  have hk := hK.out [t0, t1, t2, t3, t4, t5, _, _, t8, t9, t10, t11] x wx ⟨t0, t1, t2, t3, t4, t5, _, _, t8, t9, t10, t11, rfl, Lib.hid (J.out.step7 hi)⟩
                  have z0 := (HC6.out wx JB).1
                  have z1 := (HC6.out wx JB).2.1
                  have z2 := (HC6.out wx JB).2.2
                  simp only [putL, Act.put, List.getElem_toArray, List.getElem_cons_zero, List.getElem_cons_succ, List.setIfInBounds_toArray, List.set_cons_zero, List.set_cons_succ]
                  refine wp_load_pk (.tmp 43) rfl B (off + i * 3) q rfl z0 z1 z2 ?_
                  simp only [putL, Act.put, List.getElem_toArray, List.getElem_cons_zero, List.getElem_cons_succ, List.setIfInBounds_toArray, List.set_cons_zero, List.set_cons_succ]
                  simp only [putL, Act.put, List.getElem_toArray, List.getElem_cons_zero, List.getElem_cons_succ, List.setIfInBounds_toArray, List.set_cons_zero, List.set_cons_succ] at hk
                  exact hk
                case s8 =>
                  intro listed ts x wx hi hall hI K hK
                  obtain ⟨t0, t1, t2, t3, t4, t5, t6, t7, t8, t9, t10, t11, hts, J⟩ := hI
                  subst hts
                  rw [if_pos (by rfl)]
                  obtain rfl := J.out.f7 (hall ⟨7, Ground.data⟩ (by simp) (by rfl))
                  simp only [putL, Act.put, List.getElem_toArray, List.getElem_cons_zero, List.getElem_cons_succ, List.setIfInBounds_toArray, List.set_cons_zero, List.set_cons_succ]
                  go_simp
                  have hk := hK.out [t0, t1, t2, t3, t4, t5, t6, _, _, t9, t10, t11] x _ ⟨t0, t1, t2, t3, t4, t5, t6, _, _, t9, t10, t11, rfl, Lib.hid (J.out.step8 (ad := ⟨wx.heap.size, 0, none⟩) (o := .cells #[.int .i64 q.f, .int .i64 q.t, .int .i64 q.s] 76) hi (pkR_one wx q HQ64.out))⟩
                  simp only [putL, Act.put, List.getElem_toArray, List.getElem_cons_zero, List.getElem_cons_succ, List.setIfInBounds_toArray, List.set_cons_zero, List.set_cons_succ] at hk
                  exact hk
                case s9 =>
                  intro listed ts x wx hi hall hI K hK
                  obtain ⟨t0, t1, t2, t3, t4, t5, t6, t7, t8, t9, t10, t11, hts, J⟩ := hI
                  subst hts
                  rw [if_pos (by rfl)]
                  have h3 := hall ⟨3, Ground.data⟩ (by simp) (by rfl)
                  have h8 := hall ⟨8, Ground.data⟩ (by simp) (by rfl)
                  obtain ⟨a8, e8, hr8⟩ := J.out.f8 h8 (getD_no hi)
                  subst e8
                  simp only [putL, Act.put, List.getElem_toArray, List.getElem_cons_zero, List.getElem_cons_succ, List.setIfInBounds_toArray, List.set_cons_zero, List.set_cons_succ]
                  refine wp_append_pk (.tmp 40) (.tmp 45) rfl w6.heap.size t3 _ A rfl (J.out.f3 h3 (getD_no hi)) (some a8) 1 1 [q] rfl hr8 (by have := HAL.out; omega) J.out.hb.size ?_
                  intro v' w' ho hb
                  have hk := hK.out [t0, t1, t2, t3, t4, t5, t6, t7, _, v', t10, t11] x w' ⟨t0, t1, t2, t3, t4, t5, t6, t7, _, v', t10, t11, rfl, Lib.hid (J.out.step9 hi h3 h8 (owr_one ho) hb)⟩
                  simp only [putL, Act.put, List.getElem_toArray, List.getElem_cons_zero, List.getElem_cons_succ, List.setIfInBounds_toArray, List.set_cons_zero, List.set_cons_succ] at hk ⊢
                  exact hk
                case s10 =>
                  intro listed ts x wx hi hall hI K hK
                  obtain ⟨t0, t1, t2, t3, t4, t5, t6, t7, t8, t9, t10, t11, hts, J⟩ := hI
                  subst hts
                  rw [if_pos (by rfl)]
                  have hk := hK.out [t0, t1, t2, t3, t4, t5, t6, t7, t8, t9, _, t11] x wx ⟨t0, t1, t2, t3, t4, t5, t6, t7, t8, t9, _, t11, rfl, Lib.hid (J.out.step10 hi)⟩
                  simp only [putL, Act.put, List.getElem_toArray, List.getElem_cons_zero, List.getElem_cons_succ, List.setIfInBounds_toArray, List.set_cons_zero, List.set_cons_succ]
                  go_simp
                  simp only [putL, Act.put, List.getElem_toArray, List.getElem_cons_zero, List.getElem_cons_succ, List.setIfInBounds_toArray, List.set_cons_zero, List.set_cons_succ] at hk
                  exact hk
                case s11 =>
                  intro listed ts x wx hi hall hI K hK
                  obtain ⟨t0, t1, t2, t3, t4, t5, t6, t7, t8, t9, t10, t11, hts, J⟩ := hI
                  subst hts
                  rw [if_pos (by rfl)]
                  have h9 := hall ⟨9, Ground.data⟩ (by simp) (by rfl)
                  obtain rfl := J.out.f10 (hall ⟨10, Ground.data⟩ (by simp) (by rfl))
                  simp only [putL, Act.put, List.getElem_toArray, List.getElem_cons_zero, List.getElem_cons_succ, List.setIfInBounds_toArray, List.set_cons_zero, List.set_cons_succ]
                  refine wp_append_pk (.tmp 46) (.tmp 47) rfl w6.heap.size t9 _ (A ++ [q]) rfl (J.out.f9 h9 (getD_no hi)) aC nC cC C rfl (HRC.out.under J.out.hb) (by have := HAL.out; rw [List.length_append, List.length_singleton]; omega) J.out.hb.size ?_
                  intro v' w' ho hb
                  have hk := hK.out [t0, t1, t2, t3, t4, t5, t6, t7, t8, t9, _, v'] x w' ⟨t0, t1, t2, t3, t4, t5, t6, t7, t8, t9, _, v', rfl, Lib.hid (J.out.step11 hi h9 (owr_more HRC.out.len ho) hb)⟩
                  simp only [putL, Act.put, List.getElem_toArray, List.getElem_cons_zero, List.getElem_cons_succ, List.setIfInBounds_toArray, List.set_cons_zero, List.set_cons_succ] at hk ⊢
                  exact hk
                case s12 =>
                  intro listed ts x wx hi hall hI K hK
                  obtain ⟨t0, t1, t2, t3, t4, t5, t6, t7, t8, t9, t10, t11, hts, J⟩ := hI
                  subst hts
                  rw [if_pos (by rfl)]
                  simp only [putL, Act.put, List.getElem_toArray, List.getElem_cons_zero, List.getElem_cons_succ, List.setIfInBounds_toArray, List.set_cons_zero, List.set_cons_succ]
                  go_simp
                  have hk := hK.out [t0, t1, t2, t3, t4, t5, t6, t7, t8, t9, t10, t11] t11 wx ⟨t0, t1, t2, t3, t4, t5, t6, t7, t8, t9, t10, t11, rfl, Lib.hid (J.out.step12 hi (hall ⟨0, Ground.phase⟩ (by simp) (by rfl)) (hall ⟨11, Ground.data⟩ (by simp) (by rfl)))⟩
                  simp only [putL, Act.put, List.getElem_toArray, List.getElem_cons_zero, List.getElem_cons_succ, List.setIfInBounds_toArray, List.set_cons_zero, List.set_cons_succ] at hk
                  exact hk
              case hdone =>
                intro listed ts x wx hall hI
                obtain ⟨t0, t1, t2, t3, t4, t5, t6, t7, t8, t9, t10, t11, hts, J⟩ := hI
                subst hts
                have HEND := Lib.hid (And.intro (J.out.f12 (hall 12 (by decide))) (Below.trans HB6.out (J.out.hb.mono HB6.out.size)))
                clear J hall
                simp only [putL, Act.put, List.getElem_toArray, List.getElem_cons_zero, List.getElem_cons_succ, List.setIfInBounds_toArray, List.set_cons_zero, List.set_cons_succ]
                go_wp2_with fail
                go_roundw
                case rel => exact ⟨i + 1, by go_num, by omega, Lib.hid (by rw [HNEW.out]; exact ⟨OWr.mono HEND.out.1 HBW.out, HEND.out.2⟩), by omega⟩
                case measure => first | (simp [intOf]; done) | (simp [intOf]; omega)
    · obtain rfl : i = n := by omega
      have hlI : ¬ (i : Int) < (i : Int) := by omega
      go_wp2_with fail
      go_ret
      have e : isort l = L := by rw [← HL.out, ← hln, List.take_length]
      rw [e]
      exact HO.out.gives (by rw [HLB.out.1]; omega) HLB.out.2

end Go.Proofs.Ytknimlpdpgpliaa
