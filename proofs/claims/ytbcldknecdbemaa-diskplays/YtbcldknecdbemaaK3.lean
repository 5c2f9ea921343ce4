/-
  Contracts, joined (Ord2 OrdV Oru L12D DoeA Doe4 Doe5).
-/
import Derived.Test.YtbcldknecdbemaaJ1
import Derived.Test.YtbcldknecdbemaaJ2
import Derived.Test.YtbcldknecdbemaaK2

/-
  A region that draws its order (of no program), of which two operations that both make memory may come up in either order ahead of its tail.
-/
namespace Go.Proofs.Ytbcldknecdbemaa
open Go.RowKit
set_option linter.unusedVariables false
set_option maxRecDepth 20000

section
variable {P : Program} {md : Region.Mode} {ops : Array Oper} {Q : Exit → Act → World → Prop}

theorem ord_nil_eq (E : Act → World → Prop) (a : Act) (w : World) : wpOrd P ops Q E [] a w = ∀ u, Grows w u → E a u := by with_unfolding_all rfl
theorem ord_take_eq (E : Act → World → Prop) (i : Nat) (s : List (Nat × Bool)) (a : Act) (w : World) : wpOrd P ops Q E ((i, true) :: s) a w = ∃ o v, ops[i]? = some o ∧ YieldsG P ops w o v a ∧ wpOrd P ops Q E s (a.put o.dst v) w := by with_unfolding_all rfl
theorem ord_move_eq (E : Act → World → Prop) (i : Nat) (s : List (Nat × Bool)) (a : Act) (w : World) : wpOrd P ops Q E ((i, false) :: s) a w = ∀ u, Grows w u → wpOp P ops Q i (fun a' u' => Grows u u' ∧ wpOrd P ops Q E s a' u') a u := by with_unfolding_all rfl
/-- The two, each ahead of the other. -/
def bothB (md : Region.Mode) (ops : Array Oper) (n g i j : Nat) (listed : Array Bool) : Bool :=
  decide (i < n) && decide (j < n) && decide (i ≠ j) && (Region.ready md ops listed == [i, j]) && (Region.ready md ops (listed.setIfInBounds i true) == [j]) && (Region.ready md ops (listed.setIfInBounds j true) == [i]) && Region.seqB md ops g n ((listed.setIfInBounds i true).setIfInBounds j true)
def ordB2 (md : Region.Mode) (ops : Array Oper) (n g i j : Nat) : List (Nat × Bool) → Array Bool → Bool
  | [], listed => bothB md ops n g i j listed
  | (k, true) :: s, listed => decide (k < n) && (Region.ready md ops listed).contains k && Region.free md ops listed k && ordB2 md ops n g i j s (listed.setIfInBounds k true)
  | (k, false) :: s, listed => decide (k < n) && (Region.ready md ops listed == [k]) && ordB2 md ops n g i j s (listed.setIfInBounds k true)
/-- One, then the other. -/
def wpThen (P : Program) (ops : Array Oper) (Q : Exit → Act → World → Prop) (E : Act → World → Prop) (i j : Nat) (a : Act) (u : World) : Prop :=
  wpOp P ops Q i (fun a' u' => Grows u u' ∧ ∀ u2, Grows u' u2 → wpOp P ops Q j (fun a2 u3 => Grows u2 u3 ∧ ∀ u4, Grows u3 u4 → E a2 u4) a' u2) a u

theorem wpAnyU_then {n g i j : Nat} {E : Act → World → Prop} {listed : Array Bool} {a : Act} {w : World} (hi : i < n) (hj : j < n) (h1 : Region.ready md ops (listed.setIfInBounds i true) = [j]) (h2 : Region.seqB md ops g n ((listed.setIfInBounds i true).setIfInBounds j true) = true)
    (h : ∀ u, Grows w u → wpThen P ops Q E i j a u) : ∀ u, Grows w u → wpOp P ops Q i (fun a' u' => Grows u u' ∧ wpAnyU P md ops Q n (fun listed' a' w' => Region.seqB md ops g n listed' = true ∧ ∀ u, Grows w' u → E a' u) 1 (listed.setIfInBounds i true) a' u') a u := fun u hu => by
  refine wpOp_mono (fun a' u' h3 => ⟨h3.1, ?_, fun k hk => ?_⟩) (h u hu)
  · rw [h1]; simp
  · rw [h1] at hk
    obtain rfl : k = j := by simpa using hk
    exact ⟨hj, fun u2 hu2 => wpOp_mono (fun a2 u3 h4 => ⟨h4.1, h2, h4.2⟩) (h3.2 u2 hu2)⟩

theorem wpAnyU_of_ord2 {n g i j : Nat} {E : Act → World → Prop} (hs : Region.noSelect ops = true) (hQ : ∀ c a d v w, Q (.panic c) (Act.put a d v) w → Q (.panic c) a w)
    (hwait : ∀ i, i < n → ∀ listed, HeadInv md ops n listed → listed.getD i true = false → ∀ j ∈ Region.ready md ops listed, j < n) :
    ∀ (s : List (Nat × Bool)) (listed : Array Bool) (a : Act) (w : World), HeadInv md ops n listed → ordB2 md ops n g i j s listed = true → wpOrd P ops Q (fun a u => wpThen P ops Q E i j a u ∧ wpThen P ops Q E j i a u) s a w →
      wpAnyU P md ops Q n (fun listed' a' w' => Region.seqB md ops g n listed' = true ∧ ∀ u, Grows w' u → E a' u) (s.length + 2) listed a w
  | [], listed, a, w, inv, hB, h => by
    simp only [ordB2, bothB, Bool.and_eq_true, decide_eq_true_eq, beq_iff_eq] at hB
    obtain ⟨⟨⟨⟨⟨⟨hin, hjn⟩, hne⟩, hr⟩, hri⟩, hrj⟩, hsq⟩ := hB
    rw [ord_nil_eq] at h
    refine ⟨by rw [hr]; simp, fun k hk => ?_⟩
    rw [hr] at hk
    rcases List.mem_cons.1 hk with rfl | hk
    · exact ⟨hin, wpAnyU_then hin hjn hri hsq (fun u hu => (h u hu).1)⟩
    · obtain rfl : k = j := by simpa using hk
      exact ⟨hjn, wpAnyU_then hjn hin hrj (by rw [Array.setIfInBounds_comm _ _ hne] at hsq; exact hsq) (fun u hu => (h u hu).2)⟩
  | (k, true) :: s, listed, a, w, inv, hB, h => by
    simp only [ordB2, Bool.and_eq_true, decide_eq_true_eq] at hB
    obtain ⟨⟨⟨hin, hr⟩, hf⟩, hB'⟩ := hB
    rw [ord_take_eq] at h
    obtain ⟨o, v, ho, hy, h'⟩ := h
    have hr' : k ∈ Region.ready md ops listed := by simpa using hr
    exact wpAnyU_first ho (Region.noSelect_spec hs) (fun c a w => hQ c a o.dst v w) hin (hwait k hin) (fun _ _ _ _ hg hl => ⟨hl.1, fun u hu => hl.2 u (Grows.trans hg hu)⟩) (fun _ _ _ hl => seqB_ready hl.1)
      (s.length + 2) listed a w inv (Region.free_spec ho hf) hr' hy (wpAnyU_of_ord2 hs hQ hwait s _ _ w (inv.set hr' hin) hB' h')
  | (k, false) :: s, listed, a, w, inv, hB, h => by
    simp only [ordB2, Bool.and_eq_true, decide_eq_true_eq] at hB
    obtain ⟨⟨hin, hr⟩, hB'⟩ := hB
    rw [ord_move_eq] at h
    have hr' : Region.ready md ops listed = [k] := by simpa using hr
    have hm : k ∈ Region.ready md ops listed := by rw [hr']; simp
    refine ⟨fun h0 => (by rw [hr'] at h0; cases h0), fun j hj => ?_⟩
    rw [hr'] at hj
    have hji : j = k := by simpa using hj
    subst hji
    exact ⟨hin, fun u hu => wpOp_mono (fun a' w' h' => ⟨h'.1, wpAnyU_of_ord2 hs hQ hwait s _ a' w' (inv.set hm hin) hB' h'.2⟩) (h u hu)⟩

def ordWholeB2 (ops : Array Oper) (n i j : Nat) (s : List (Nat × Bool)) : Bool :=
  Region.noSelect ops && decide (n ≤ ops.size) && (decide (n = ops.size) || (Region.sinkB .any ops n && Region.chainB .any ops n)) && (s.length + 2 == n) && ordB2 .any ops n (ops.size - n) i j s (Array.replicate ops.size false)

/-- THE RULE. -/
theorem wp_region_ord2 {id : Nat} {a : Act} {w : World} {l : List Oper} (n i j : Nat) (s : List (Nat × Bool)) (hm : P.follows .mixedOrders = true) (hB : ordWholeB2 l.toArray n i j s = true)
    (h : wpOrd P l.toArray (NoPanic Q) (fun a u => wpThen P l.toArray (NoPanic Q) (fun a' u => wpList P l.toArray (NoPanic Q) (l.drop n) a' u) i j a u ∧ wpThen P l.toArray (NoPanic Q) (fun a' u => wpList P l.toArray (NoPanic Q) (l.drop n) a' u) j i a u) s a w.drew) : (Code.region id l.toArray true).wp P Q a w := by
  simp only [ordWholeB2, Bool.and_eq_true, decide_eq_true_eq, Bool.or_eq_true, beq_iff_eq] at hB
  obtain ⟨⟨⟨⟨hsel, hn⟩, hc⟩, hl⟩, hord⟩ := hB
  have hdl : (l.drop n).length = l.toArray.size - n := by simp
  have inv0 : HeadInv .any l.toArray n (Array.replicate l.toArray.size false) :=
    ⟨by simp, fun j oj _ hl => (by rw [getD_replicate_false] at hl; cases hl), fun t _ ht => getD_in (by simpa using ht) (getD_replicate_false _ _)⟩
  have hwait : ∀ i, i < n → ∀ listed, HeadInv .any l.toArray n listed → listed.getD i true = false → ∀ j ∈ Region.ready .any l.toArray listed, j < n := fun i hi listed inv hun j hj => by
    rcases hc with hc | ⟨hs, hch⟩
    · obtain ⟨_, oj, hoj, _⟩ := mem_ready.1 hj
      have := (Array.getElem?_eq_some_iff.1 hoj).1
      omega
    · rcases Nat.lt_or_ge j n with h | h
      · exact h
      · have hjs : j < l.toArray.size := by
          obtain ⟨_, oj, hoj, _⟩ := mem_ready.1 hj
          exact (Array.getElem?_eq_some_iff.1 hoj).1
        exact absurd hj (tail_waits hs hch (by omega) inv _ i rfl hi hun j h)
  refine wp_region_noPanic (wp_region_any hm ?_)
  have H := wpAnyU_of_ord2 (md := .any) (g := l.toArray.size - n) (Q := NoPanic Q) hsel (fun c a d v w h => h) hwait s _ a w.drew inv0 hord h
  have := wpAny_of_U (Q := NoPanic Q) (g := l.toArray.size - n) (fun listed a' w' hL => by
    have := wpAny_of_seq (md := .any) (Q' := NoPanic Q) (l.drop n) n listed a' w' (fun j => by simp [List.getElem?_drop]) (by rw [hdl]; exact hL.1) (hL.2 w' (Grows.refl _))
    rwa [hdl] at this) _ _ _ _ H
  rw [hl, show n + (l.toArray.size - n) = l.toArray.size by omega] at this
  exact this
/-- One of the two. -/
theorem op_move {l : List Oper} {i : Nat} {a : Act} {u : World} {R : Act → World → Prop} (o : Oper) (ho : l[i]? = some o) (hw : Region.wanted o (yielded l.toArray a.tmps) = true)
    (h : ∀ K : Act → World → Prop, Shut (∀ a' u', R a' u' → K a' u') → Oper.wp P o a u K Q) : wpOp P l.toArray Q i R a u := by
  refine wpOp_step (by simpa using ho) fun K hK => ?_
  rw [if_pos hw]
  exact h K fun a' w' hr => hK a' w' hr
end
end Go.Proofs.Ytbcldknecdbemaa

/-
  A region that draws its order (of no program), walked by a tree of orders to its very end: readers and calls that yield one value as soon as they may come up (while one is not yet done, no store comes up); operations that read no memory as soon as they may come up, stores or not; makers of memory and stores where nothing else may come up, or, of two of them, both ways.
-/
namespace Go.Proofs.Ytbcldknecdbemaa
open Go.RowKit
set_option linter.unusedVariables false
set_option maxRecDepth 20000

inductive OV where
  | done
  | take (i : Nat) (t : OV)
  | pure (i : Nat) (t : OV)
  | move (i : Nat) (t : OV)
  | both (i j : Nat) (t1 t2 : OV)
section
variable {P : Program} {md : Region.Mode} {ops : Array Oper} {Q : Exit → Act → World → Prop} {n : Nat}

/-- Whatever order is picked; behind every operation ahead of number n the world has but grown. -/
def wpV (P : Program) (md : Region.Mode) (ops : Array Oper) (Q : Exit → Act → World → Prop) (n : Nat) : Nat → Array Bool → Act → World → Prop
  | 0, listed, a, w => Region.ready md ops listed = [] ∧ ∀ u, Grows w u → Q .normal a u
  | f + 1, listed, a, w => Region.ready md ops listed ≠ [] ∧ ∀ i ∈ Region.ready md ops listed, ∀ u, Grows w u → wpOp P ops Q i (fun a' u' => (i < n → Grows u u') ∧ wpV P md ops Q n f (listed.setIfInBounds i true) a' u') a u
theorem wpV_later : ∀ (f : Nat) (listed : Array Bool) (a : Act) (w w' : World), Grows w w' → wpV P md ops Q n f listed a w → wpV P md ops Q n f listed a w'
  | 0, _, _, _, _, hg, h => ⟨h.1, fun u hu => h.2 u (Grows.trans hg hu)⟩
  | _ + 1, _, _, _, _, hg, h => ⟨h.1, fun i hi u hu => h.2 i hi u (Grows.trans hg hu)⟩
theorem wpAny_of_V : ∀ (f : Nat) (listed : Array Bool) (a : Act) (w : World), wpV P md ops Q n f listed a w → wpAny P md ops Q f listed a w
  | 0, _, _, w, h => ⟨h.1, h.2 w (Grows.refl w)⟩
  | f + 1, _, _, w, h => ⟨fun h0 => absurd h0 h.1, fun i hi => wpOp_mono (fun a' w' h' => wpAny_of_V f _ a' w' h'.2) (h.2 i hi w (Grows.refl w))⟩

theorem wpV_first {i : Nat} {oi : Oper} {v : Value} (hi : ops[i]? = some oi) (hsel : ∀ (j : Nat) (o : Oper) cs b, ops[j]? = some o → o.op ≠ .select cs b)
    (hQ : ∀ c a w, Q (.panic c) (a.put oi.dst v) w → Q (.panic c) a w) (hwait : ∀ listed : Array Bool, listed.getD i true = false → ∀ j ∈ Region.ready md ops listed, j < n) :
    ∀ (f : Nat) (listed : Array Bool) (a : Act) (w : World),
      (∀ j oj, ops[j]? = some oj → j ≠ i → listed.getD j true = false → (∀ e ∈ oj.after, Region.binds md e = true → e.on ≠ i) → oi.apart ops oj = true) →
      i ∈ Region.ready md ops listed → YieldsG P ops w oi v a →
      wpV P md ops Q n f (listed.setIfInBounds i true) (a.put oi.dst v) w → wpV P md ops Q n (f + 1) listed a w := by
  intro f
  induction f with
  | zero =>
    intro listed a w _ hr hy H
    refine ⟨fun h => (by rw [h] at hr; cases hr), fun j hj u hu => ?_⟩
    by_cases hji : j = i
    · subst hji
      exact hy.wpOp hi hu fun u' hu' => ⟨fun _ => hu', wpV_later 0 _ _ _ _ (Grows.trans hu hu') H⟩
    · have h1 := ready_mono hj hji
      rw [H.1] at h1
      cases h1
  | succ f ih =>
    intro listed a w hfree hr hy H
    have hun := (mem_ready.1 hr).1
    refine ⟨fun h => (by rw [h] at hr; cases hr), fun j hj u hu => ?_⟩
    by_cases hji : j = i
    · subst hji
      exact hy.wpOp hi hu fun u' hu' => ⟨fun _ => hu', wpV_later _ _ _ _ _ (Grows.trans hu hu') H⟩
    · have h1 := H.2 j (ready_mono hj hji) u hu
      obtain ⟨hjun, oj, hoj, hall⟩ := mem_ready.1 hj
      have hnot : ∀ e ∈ oj.after, Region.binds md e = true → e.on ≠ i := fun e he hb heq => by
        have h1 := hall e he hb
        rw [heq, getD_both hun] at h1
        cases h1
      have h2 := wpOp_beside hoj (hfree j oj hoj hji hjun hnot) (fun cs b => hsel i oi cs b hi) (fun cs b => hsel j oj cs b hoj) hQ hy h1
      have hfree' : ∀ k ok, ops[k]? = some ok → k ≠ i → (listed.setIfInBounds j true).getD k true = false →
          (∀ e ∈ ok.after, Region.binds md e = true → e.on ≠ i) → oi.apart ops ok = true := fun k ok hk hki hun' hno => by
        refine hfree k ok hk hki ?_ hno
        by_cases hjk : j = k
        · subst hjk; exact hjun
        · rwa [getD_set_ne true hjk] at hun'
      refine wpOp_mono (fun a' u' h3 => ?_) h2
      have hg := h3.2.1 (hwait listed hun j hj)
      refine ⟨fun _ => hg, ih (listed.setIfInBounds j true) a' u' hfree' (ready_mono hr (Ne.symm hji)) (h3.1.later (Grows.trans hu hg)) ?_⟩
      rw [Array.setIfInBounds_comm _ _ hji]
      exact h3.2.2
/-- An operation that reads no memory, beside any other. -/
theorem wpOp_beside_pure {j : Nat} {oi oj : Oper} {v : Value} (hj : ops[j]? = some oj) (hap : oi.apart ops oj = true)
    (hsi : ∀ cs b, oi.op ≠ .select cs b) (hsj : ∀ cs b, oj.op ≠ .select cs b)
    (hQ : ∀ c a w, Q (.panic c) (a.put oi.dst v) w → Q (.panic c) a w) {K : Act → World → Prop} {a : Act} {u : World}
    (hy : ∀ w, YieldsG P ops w oi v a) (h : wpOp P ops Q j K (a.put oi.dst v) u) :
    wpOp P ops Q j (fun a' u' => (∀ w, YieldsG P ops w oi v a') ∧ K (a'.put oi.dst v) u') a u := by
  have h1 := wpOp_putIf (S := fun _ => False) hj hap hsi hsj hQ ((hy u).imp (fun ⟨h1, _⟩ => ⟨h1, fun _ h => h.elim⟩) id) h
  obtain ⟨_, _, h3⟩ := Oper.apart_spec hap
  refine wpOp_mono (fun a' u' h2 => ⟨h2.1, h2.2.2⟩) (wpOp_kept (Y := fun a' => ∀ w, YieldsG P ops w oi v a') hj (fun ds x w => ?_) h1)
  exact YieldsG.same (a := { a with defers := ds }) ((hy w).same rfl rfl) (execOp_put oi hsi _ oj.dst x h3) (wanted_put oi _ oj.dst x h3)
theorem wpV_pure {i : Nat} {oi : Oper} {v : Value} (hi : ops[i]? = some oi) (hsel : ∀ (j : Nat) (o : Oper) cs b, ops[j]? = some o → o.op ≠ .select cs b)
    (hQ : ∀ c a w, Q (.panic c) (a.put oi.dst v) w → Q (.panic c) a w) :
    ∀ (f : Nat) (listed : Array Bool) (a : Act) (w : World),
      (∀ j oj, ops[j]? = some oj → j ≠ i → listed.getD j true = false → (∀ e ∈ oj.after, Region.binds md e = true → e.on ≠ i) → oi.apart ops oj = true) →
      i ∈ Region.ready md ops listed → (∀ w, YieldsG P ops w oi v a) →
      wpV P md ops Q n f (listed.setIfInBounds i true) (a.put oi.dst v) w → wpV P md ops Q n (f + 1) listed a w := by
  intro f
  induction f with
  | zero =>
    intro listed a w _ hr hy H
    refine ⟨fun h => (by rw [h] at hr; cases hr), fun j hj u hu => ?_⟩
    by_cases hji : j = i
    · subst hji
      exact (hy w).wpOp hi hu fun u' hu' => ⟨fun _ => hu', wpV_later 0 _ _ _ _ (Grows.trans hu hu') H⟩
    · have h1 := ready_mono hj hji
      rw [H.1] at h1
      cases h1
  | succ f ih =>
    intro listed a w hfree hr hy H
    have hun := (mem_ready.1 hr).1
    refine ⟨fun h => (by rw [h] at hr; cases hr), fun j hj u hu => ?_⟩
    by_cases hji : j = i
    · subst hji
      exact (hy w).wpOp hi hu fun u' hu' => ⟨fun _ => hu', wpV_later _ _ _ _ _ (Grows.trans hu hu') H⟩
    · have h1 := H.2 j (ready_mono hj hji) u hu
      obtain ⟨hjun, oj, hoj, hall⟩ := mem_ready.1 hj
      have hnot : ∀ e ∈ oj.after, Region.binds md e = true → e.on ≠ i := fun e he hb heq => by
        have h1 := hall e he hb
        rw [heq, getD_both hun] at h1
        cases h1
      have h2 := wpOp_beside_pure hoj (hfree j oj hoj hji hjun hnot) (fun cs b => hsel i oi cs b hi) (fun cs b => hsel j oj cs b hoj) hQ hy h1
      have hfree' : ∀ k ok, ops[k]? = some ok → k ≠ i → (listed.setIfInBounds j true).getD k true = false →
          (∀ e ∈ ok.after, Region.binds md e = true → e.on ≠ i) → oi.apart ops ok = true := fun k ok hk hki hun' hno => by
        refine hfree k ok hk hki ?_ hno
        by_cases hjk : j = k
        · subst hjk; exact hjun
        · rwa [getD_set_ne true hjk] at hun'
      refine wpOp_mono (fun a' u' h3 => ⟨h3.2.1, ih (listed.setIfInBounds j true) a' u' hfree' (ready_mono hr (Ne.symm hji)) h3.1 ?_⟩) h2
      rw [Array.setIfInBounds_comm _ _ hji]
      exact h3.2.2

/-- Every operation from number n on waits for i. -/
def waitB (md : Region.Mode) (ops : Array Oper) (n i : Nat) : Bool := (List.range ops.size).all fun t => decide (t < n) || (match ops[t]? with | some o => o.after.any (fun e => Region.binds md e && e.on == i) | none => true)
theorem waitB_spec {i : Nat} (h : waitB md ops n i = true) (listed : Array Bool) (hun : listed.getD i true = false) : ∀ j ∈ Region.ready md ops listed, j < n := fun j hj => by
  obtain ⟨_, oj, hoj, hall⟩ := mem_ready.1 hj
  have hlt := (Array.getElem?_eq_some_iff.1 hoj).1
  have h1 := (List.all_eq_true.1 h) j (List.mem_range.2 hlt)
  rw [hoj] at h1
  simp only [Bool.or_eq_true, decide_eq_true_eq] at h1
  rcases h1 with h1 | h1
  · exact h1
  · obtain ⟨k, hk, he⟩ := Array.any_eq_true.1 h1
    simp only [Bool.and_eq_true, beq_iff_eq] at he
    have h2 := hall _ (Array.getElem_mem hk) he.1
    rw [he.2, getD_both hun] at h2
    cases h2
def ovB (md : Region.Mode) (ops : Array Oper) (n : Nat) : OV → Nat → Array Bool → Bool
  | .done, f, listed => decide (f = 0) && (Region.ready md ops listed).isEmpty
  | .take i t, f, listed => decide (0 < f) && (Region.ready md ops listed).contains i && Region.free md ops listed i && waitB md ops n i && ovB md ops n t (f - 1) (listed.setIfInBounds i true)
  | .pure i t, f, listed => decide (0 < f) && (Region.ready md ops listed).contains i && Region.free md ops listed i && ovB md ops n t (f - 1) (listed.setIfInBounds i true)
  | .move i t, f, listed => decide (0 < f) && (Region.ready md ops listed == [i]) && ovB md ops n t (f - 1) (listed.setIfInBounds i true)
  | .both i j t1 t2, f, listed => decide (0 < f) && (Region.ready md ops listed == [i, j]) && ovB md ops n t1 (f - 1) (listed.setIfInBounds i true) && ovB md ops n t2 (f - 1) (listed.setIfInBounds j true)
def wpOV (P : Program) (ops : Array Oper) (Q : Exit → Act → World → Prop) (n : Nat) : OV → Act → World → Prop
  | .done, a, w => ∀ u, Grows w u → Q .normal a u
  | .take i t, a, w => ∃ o v, ops[i]? = some o ∧ YieldsG P ops w o v a ∧ wpOV P ops Q n t (a.put o.dst v) w
  | .pure i t, a, w => ∃ o v, ops[i]? = some o ∧ (∀ w', YieldsG P ops w' o v a) ∧ wpOV P ops Q n t (a.put o.dst v) w
  | .move i t, a, w => ∀ u, Grows w u → wpOp P ops Q i (fun a' u' => (i < n → Grows u u') ∧ wpOV P ops Q n t a' u') a u
  | .both i j t1 t2, a, w => (∀ u, Grows w u → wpOp P ops Q i (fun a' u' => (i < n → Grows u u') ∧ wpOV P ops Q n t1 a' u') a u) ∧ (∀ u, Grows w u → wpOp P ops Q j (fun a' u' => (j < n → Grows u u') ∧ wpOV P ops Q n t2 a' u') a u)

theorem wpV_of_OV (hs : Region.noSelect ops = true) (hQ : ∀ c a d v w, Q (.panic c) (Act.put a d v) w → Q (.panic c) a w) :
    ∀ (t : OV) (f : Nat) (listed : Array Bool) (a : Act) (w : World), ovB md ops n t f listed = true → wpOV P ops Q n t a w → wpV P md ops Q n f listed a w := by
  intro t
  induction t with
  | done =>
    intro f listed a w hB h
    simp only [ovB, Bool.and_eq_true, decide_eq_true_eq] at hB
    obtain ⟨rfl, hB⟩ := hB
    exact ⟨by simpa using hB, h⟩
  | take i t ih =>
    intro f listed a w hB h
    simp only [ovB, Bool.and_eq_true, decide_eq_true_eq] at hB
    obtain ⟨⟨⟨⟨h0, hr⟩, hf⟩, hw⟩, hB'⟩ := hB
    obtain ⟨o, v, ho, hy, h'⟩ := h
    obtain ⟨f, rfl⟩ : ∃ k, f = k + 1 := ⟨f - 1, by omega⟩
    have hr' : i ∈ Region.ready md ops listed := by simpa using hr
    exact wpV_first ho (Region.noSelect_spec hs) (fun c a w => hQ c a o.dst v w) (waitB_spec hw) f listed a w (Region.free_spec ho hf) hr' hy (ih _ _ _ w hB' h')
  | pure i t ih =>
    intro f listed a w hB h
    simp only [ovB, Bool.and_eq_true, decide_eq_true_eq] at hB
    obtain ⟨⟨⟨h0, hr⟩, hf⟩, hB'⟩ := hB
    obtain ⟨o, v, ho, hy, h'⟩ := h
    obtain ⟨f, rfl⟩ : ∃ k, f = k + 1 := ⟨f - 1, by omega⟩
    have hr' : i ∈ Region.ready md ops listed := by simpa using hr
    exact wpV_pure ho (Region.noSelect_spec hs) (fun c a w => hQ c a o.dst v w) f listed a w (Region.free_spec ho hf) hr' hy (ih _ _ _ w hB' h')
  | move i t ih =>
    intro f listed a w hB h
    simp only [ovB, Bool.and_eq_true, decide_eq_true_eq] at hB
    obtain ⟨⟨h0, hr⟩, hB'⟩ := hB
    obtain ⟨f, rfl⟩ : ∃ k, f = k + 1 := ⟨f - 1, by omega⟩
    have hr' : Region.ready md ops listed = [i] := by simpa using hr
    refine ⟨fun h0 => (by rw [hr'] at h0; cases h0), fun j hj => ?_⟩
    rw [hr'] at hj
    obtain rfl : j = i := by simpa using hj
    exact fun u hu => wpOp_mono (fun a' w' h' => ⟨h'.1, ih _ _ a' w' hB' h'.2⟩) (h u hu)
  | both i j t1 t2 ih1 ih2 =>
    intro f listed a w hB h
    simp only [ovB, Bool.and_eq_true, decide_eq_true_eq] at hB
    obtain ⟨⟨⟨h0, hr⟩, hB1⟩, hB2⟩ := hB
    obtain ⟨f, rfl⟩ : ∃ k, f = k + 1 := ⟨f - 1, by omega⟩
    have hr' : Region.ready md ops listed = [i, j] := by simpa using hr
    refine ⟨fun h0 => (by rw [hr'] at h0; cases h0), fun k hk => ?_⟩
    rw [hr'] at hk
    rcases List.mem_cons.1 hk with rfl | hk
    · exact fun u hu => wpOp_mono (fun a' w' h' => ⟨h'.1, ih1 _ _ a' w' hB1 h'.2⟩) (h.1 u hu)
    · obtain rfl : k = j := by simpa using hk
      exact fun u hu => wpOp_mono (fun a' w' h' => ⟨h'.1, ih2 _ _ a' w' hB2 h'.2⟩) (h.2 u hu)

/-- THE RULE. -/
theorem wp_region_ov {id : Nat} {a : Act} {w : World} {l : List Oper} (n : Nat) (t : OV) (hm : P.follows .mixedOrders = true) (hB : (Region.noSelect l.toArray && ovB .any l.toArray n t l.toArray.size (Array.replicate l.toArray.size false)) = true)
    (h : wpOV P l.toArray (NoPanic Q) n t a w.drew) : (Code.region id l.toArray true).wp P Q a w := by
  simp only [Bool.and_eq_true] at hB
  refine wp_region_noPanic (wp_region_any hm ?_)
  exact wpAny_of_V _ _ _ _ (wpV_of_OV (md := .any) (Q := NoPanic Q) hB.1 (fun c a d v w h => h) t _ _ a w.drew hB.2 h)
/-- A row of readers and makers, walked as Ord walks it, then the tree's. -/
def OV.ofS : List (Nat × Bool) → OV → OV
  | [], t => t
  | (i, true) :: s, t => .take i (OV.ofS s t)
  | (i, false) :: s, t => .move i (OV.ofS s t)
theorem ov_of_ord (t : OV) : ∀ (s : List (Nat × Bool)) (a : Act) (w : World), wpOrd P ops Q (fun a' u => wpOV P ops Q n t a' u) s a w → wpOV P ops Q n (OV.ofS s t) a w
  | [], a, w, h => by rw [ord_nil_eq] at h; exact h w (Grows.refl w)
  | (i, true) :: s, a, w, h => by
    rw [ord_take_eq] at h
    obtain ⟨o, v, ho, hy, h'⟩ := h
    exact ⟨o, v, ho, hy, ov_of_ord t s _ w h'⟩
  | (i, false) :: s, a, w, h => by
    rw [ord_move_eq] at h
    exact fun u hu => wpOp_mono (fun a' u' h' => ⟨fun _ => h'.1, ov_of_ord t s a' u' h'.2⟩) (h u hu)
theorem ov_both {i j : Nat} {t1 t2 : OV} {a : Act} {w : World} (h1 : ∀ u, Grows w u → wpOp P ops Q i (fun a' u' => (i < n → Grows u u') ∧ wpOV P ops Q n t1 a' u') a u)
    (h2 : ∀ u, Grows w u → wpOp P ops Q j (fun a' u' => (j < n → Grows u u') ∧ wpOV P ops Q n t2 a' u') a u) : wpOV P ops Q n (.both i j t1 t2) a w := ⟨h1, h2⟩
theorem ov_move {i : Nat} {t : OV} {a : Act} {w : World} (h : ∀ u, Grows w u → wpOp P ops Q i (fun a' u' => (i < n → Grows u u') ∧ wpOV P ops Q n t a' u') a u) : wpOV P ops Q n (.move i t) a w := h
theorem ov_pure {l : List Oper} {i : Nat} {t : OV} {a : Act} {w : World} (o : Oper) (v : Value) (ho : l[i]? = some o) (hw : Region.wanted o (yielded l.toArray a.tmps) = true)
    (hy : ∀ u, (execOp a.eval o).run P u = .ok (.value v) u) (h : wpOV P l.toArray Q n t (a.put o.dst v) w) : wpOV P l.toArray Q n (.pure i t) a w :=
  ⟨o, v, by simpa using ho, fun w' => .inl ⟨hw, fun u hu => by unfold Oper.quietAt; rw [hy u]; exact ⟨rfl, rfl⟩⟩, h⟩
theorem ov_done {a : Act} {w : World} (h : ∀ u, Grows w u → Q .normal a u) : wpOV P ops Q n .done a w := h
/-- One operation that changes the world. -/
theorem ov_op {l : List Oper} {i : Nat} {a : Act} {u : World} {R : Act → World → Prop} (o : Oper) (ho : l[i]? = some o) (hw : Region.wanted o (yielded l.toArray a.tmps) = true)
    (h : ∀ K : Act → World → Prop, Shut (∀ a' u', R a' u' → K a' u') → Oper.wp P o a u K Q) : wpOp P l.toArray Q i R a u := by
  refine wpOp_step (by simpa using ho) fun K hK => ?_
  rw [if_pos hw]
  exact h K fun a' w' hr => hK a' w' hr
end
end Go.Proofs.Ytbcldknecdbemaa

/-
  As Ord, for a region in which an operation that comes alone may turn blocks of S (a call that writes a block, an append to a row); what is taken ahead of it reads none of them. (Of no program.)
-/
namespace Go.Proofs.Ytbcldknecdbemaa
open Go.RowKit
set_option linter.unusedVariables false
set_option maxRecDepth 20000
section
variable {P : Program} {ops : Array Oper} {Q : Exit → Act → World → Prop} {md : Region.Mode} {S : Nat → Prop}

/-- In every world that has grown from w the operation yields v, and the world but grows. -/
def YieldsC (S : Nat → Prop) (P : Program) (ops : Array Oper) (w : World) (o : Oper) (v : Value) (a : Act) : Prop :=
  (Region.wanted o (yielded ops a.tmps) = true ∧ ∀ u, Turns S w u → Oper.quietAt P o a (Grows u) u v) ∨ (Region.wanted o (yielded ops a.tmps) = false ∧ v = undef)

theorem YieldsC.same {w : World} {o : Oper} {v : Value} {a a' : Act} (hy : YieldsC S P ops w o v a) (he : execOp a'.eval o = execOp a.eval o)
    (hw : Region.wanted o (yielded ops a'.tmps) = Region.wanted o (yielded ops a.tmps)) : YieldsC S P ops w o v a' := by
  unfold YieldsC Oper.quietAt at *
  rw [he, hw]
  exact hy
theorem YieldsC.later {w w' : World} {o : Oper} {v : Value} {a : Act} (hy : YieldsC S P ops w o v a) (h : Turns S w w') : YieldsC S P ops w' o v a :=
  hy.imp (fun ⟨h1, h2⟩ => ⟨h1, fun u hu => h2 u (Turns.trans h hu)⟩) id

theorem YieldsC.wpOp {w : World} {i : Nat} {o : Oper} {v : Value} {a : Act} (hi : ops[i]? = some o) (hy : YieldsC S P ops w o v a) {K : Act → World → Prop} {u : World} (hu : Turns S w u)
    (h : ∀ u', Grows u u' → K (a.put o.dst v) u') : wpOp P ops Q i K a u := by
  unfold Go.wpOp
  simp only [hi]
  rcases hy with ⟨hw, hv⟩ | ⟨hw, rfl⟩
  · rw [if_pos hw]
    refine .inl ?_
    have h1 := hv u hu
    unfold Oper.quietAt at h1
    unfold Oper.wp
    generalize (execOp a.eval o).run P u = r at *
    match r, h1 with
    | .ok (.value x) w', h1 => obtain ⟨rfl, rfl⟩ := h1; exact h _ (Grows.refl _)
    | .ok .skip w', h1 => obtain ⟨rfl, rfl⟩ := h1; exact h _ (Grows.refl _)
    | .ok (.enter f args) w', h1 =>
      obtain ⟨rfl, hc⟩ := h1
      exact Calls.mono hc fun e w'' ⟨he, hg⟩ => by subst he; exact h _ hg
  · rw [if_neg (by rw [hw]; exact Bool.false_ne_true)]
    exact h _ (Grows.refl _)

/-- Another operation, apart from it. -/
theorem wpOp_besideC {j : Nat} {oi oj : Oper} {v : Value} {w : World} (hj : ops[j]? = some oj) (hap : oi.apart ops oj = true)
    (hsi : ∀ cs b, oi.op ≠ .select cs b) (hsj : ∀ cs b, oj.op ≠ .select cs b)
    (hQ : ∀ c a w, Q (.panic c) (a.put oi.dst v) w → Q (.panic c) a w) {K : Act → World → Prop} {a : Act} {u : World}
    (hy : YieldsC S P ops w oi v a) (h : wpOp P ops Q j K (a.put oi.dst v) u) :
    wpOp P ops Q j (fun a' u' => YieldsC S P ops w oi v a' ∧ K (a'.put oi.dst v) u') a u := by
  have h1 := wpOp_putIf (S := fun _ => False) hj hap hsi hsj hQ (hy.imp (fun ⟨h1, _⟩ => ⟨h1, fun _ h => h.elim⟩) id) h
  obtain ⟨_, _, h3⟩ := Oper.apart_spec hap
  refine wpOp_mono (fun a' u' h2 => ⟨h2.1, h2.2.2⟩) (wpOp_kept (Y := fun a' => YieldsC S P ops w oi v a') hj (fun ds x => ?_) h1)
  exact YieldsC.same (a := { a with defers := ds }) (hy.same rfl rfl) (execOp_put oi hsi _ oj.dst x h3) (wanted_put oi _ oj.dst x h3)

/-- Whatever order is picked; behind every operation ahead of number n the world has but grown; L: what is asked there. -/
def wpAnyC (S : Nat → Prop) (P : Program) (md : Region.Mode) (ops : Array Oper) (Q : Exit → Act → World → Prop) (n : Nat) (L : Array Bool → Act → World → Prop) : Nat → Array Bool → Act → World → Prop
  | 0, listed, a, w => L listed a w
  | f + 1, listed, a, w => Region.ready md ops listed ≠ [] ∧ ∀ i ∈ Region.ready md ops listed, i < n ∧
      ∀ u, Grows w u → wpOp P ops Q i (fun a' u' => Turns S u u' ∧ wpAnyC S P md ops Q n L f (listed.setIfInBounds i true) a' u') a u

theorem wpAnyC_later {n : Nat} {L : Array Bool → Act → World → Prop} (hL : ∀ listed a w w', Grows w w' → L listed a w → L listed a w') :
    ∀ (f : Nat) (listed : Array Bool) (a : Act) (w w' : World), Grows w w' → wpAnyC S P md ops Q n L f listed a w → wpAnyC S P md ops Q n L f listed a w'
  | 0, _, _, _, _, hg, h => hL _ _ _ _ hg h
  | _ + 1, _, _, _, _, hg, h => ⟨h.1, fun i hi => ⟨(h.2 i hi).1, fun u hu => (h.2 i hi).2 u (Grows.trans hg hu)⟩⟩

theorem wpAny_of_C {n g : Nat} {L : Array Bool → Act → World → Prop} (hL : ∀ listed a w, L listed a w → wpAny P md ops Q g listed a w) :
    ∀ (f : Nat) (listed : Array Bool) (a : Act) (w : World), wpAnyC S P md ops Q n L f listed a w → wpAny P md ops Q (f + g) listed a w
  | 0, listed, a, w, h => by rw [Nat.zero_add]; exact hL _ _ _ h
  | f + 1, listed, a, w, h => by
    rw [show f + 1 + g = (f + g) + 1 by omega]
    exact ⟨fun h0 => absurd h0 h.1, fun i hi => wpOp_mono (fun a' w' h' => wpAny_of_C hL f _ a' w' h'.2) ((h.2 i hi).2 w (Grows.refl w))⟩

theorem wpAnyC_first {n i : Nat} {oi : Oper} {v : Value} {L : Array Bool → Act → World → Prop} (hi : ops[i]? = some oi) (hsel : ∀ (j : Nat) (o : Oper) cs b, ops[j]? = some o → o.op ≠ .select cs b)
    (hQ : ∀ c a w, Q (.panic c) (a.put oi.dst v) w → Q (.panic c) a w) (hin : i < n) (hwait : ∀ listed, HeadInv md ops n listed → listed.getD i true = false → ∀ j ∈ Region.ready md ops listed, j < n)
    (hL : ∀ listed a w w', Grows w w' → L listed a w → L listed a w') (hdone : ∀ listed a w, L listed a w → ∀ j ∈ Region.ready md ops listed, n ≤ j) :
    ∀ (f : Nat) (listed : Array Bool) (a : Act) (w : World), HeadInv md ops n listed →
      (∀ j oj, ops[j]? = some oj → j ≠ i → listed.getD j true = false → (∀ e ∈ oj.after, Region.binds md e = true → e.on ≠ i) → oi.apart ops oj = true) →
      i ∈ Region.ready md ops listed → YieldsC S P ops w oi v a →
      wpAnyC S P md ops Q n L f (listed.setIfInBounds i true) (a.put oi.dst v) w → wpAnyC S P md ops Q n L (f + 1) listed a w := by
  intro f
  induction f with
  | zero =>
    intro listed a w inv _ hr hy H
    have hun := (mem_ready.1 hr).1
    refine ⟨fun h => (by rw [h] at hr; cases hr), fun j hj => ⟨hwait listed inv hun j hj, fun u hu => ?_⟩⟩
    by_cases hji : j = i
    · subst hji
      exact hy.wpOp hi (Turns.of_grows hu) fun u' hu' => ⟨Turns.of_grows hu', hL _ _ _ _ (Grows.trans hu hu') H⟩
    · have h1 := hdone _ _ _ H j (ready_mono hj hji)
      have h2 := hwait listed inv hun j hj
      omega
  | succ f ih =>
    intro listed a w inv hfree hr hy H
    have hun := (mem_ready.1 hr).1
    refine ⟨fun h => (by rw [h] at hr; cases hr), fun j hj => ⟨hwait listed inv hun j hj, fun u hu => ?_⟩⟩
    by_cases hji : j = i
    · subst hji
      exact hy.wpOp hi (Turns.of_grows hu) fun u' hu' => ⟨Turns.of_grows hu', wpAnyC_later hL _ _ _ _ _ (Grows.trans hu hu') H⟩
    · have h1 := (H.2 j (ready_mono hj hji)).2 u hu
      obtain ⟨hjun, oj, hoj, hall⟩ := mem_ready.1 hj
      have hnot : ∀ e ∈ oj.after, Region.binds md e = true → e.on ≠ i := fun e he hb heq => by
        have h1 := hall e he hb
        rw [heq, getD_both hun] at h1
        cases h1
      have h2 := wpOp_besideC hoj (hfree j oj hoj hji hjun hnot) (fun cs b => hsel i oi cs b hi) (fun cs b => hsel j oj cs b hoj) hQ hy h1
      have hfree' : ∀ k ok, ops[k]? = some ok → k ≠ i → (listed.setIfInBounds j true).getD k true = false →
          (∀ e ∈ ok.after, Region.binds md e = true → e.on ≠ i) → oi.apart ops ok = true := fun k ok hk hki hun' hno => by
        refine hfree k ok hk hki ?_ hno
        by_cases hjk : j = k
        · subst hjk; exact hjun
        · rwa [getD_set_ne true hjk] at hun'
      refine wpOp_mono (fun a' u' h3 => ⟨h3.2.1, ih (listed.setIfInBounds j true) a' u' (inv.set hj (hwait listed inv hun j hj)) hfree' (ready_mono hr (Ne.symm hji)) (h3.1.later (Turns.trans (Turns.of_grows hu) h3.2.1)) ?_⟩) h2
      rw [Array.setIfInBounds_comm _ _ hji]
      exact h3.2.2

/-- The walk in our order, from every world that has grown from w; E: what is asked behind it. -/
def wpOrdC (S : Nat → Prop) (P : Program) (ops : Array Oper) (Q : Exit → Act → World → Prop) (E : Act → World → Prop) : List (Nat × Bool) → Act → World → Prop
  | [], a, w => ∀ u, Grows w u → E a u
  | (i, true) :: s, a, w => ∃ o v, ops[i]? = some o ∧ YieldsC S P ops w o v a ∧ wpOrdC S P ops Q E s (a.put o.dst v) w
  | (i, false) :: s, a, w => ∀ u, Grows w u → wpOp P ops Q i (fun a' u' => Turns S u u' ∧ wpOrdC S P ops Q E s a' u') a u

theorem wpAnyC_of_ord {n g : Nat} {E : Act → World → Prop} (hs : Region.noSelect ops = true) (hQ : ∀ c a d v w, Q (.panic c) (Act.put a d v) w → Q (.panic c) a w)
    (hwait : ∀ i, i < n → ∀ listed, HeadInv md ops n listed → listed.getD i true = false → ∀ j ∈ Region.ready md ops listed, j < n) :
    ∀ (s : List (Nat × Bool)) (listed : Array Bool) (a : Act) (w : World), HeadInv md ops n listed → ordB md ops n g s listed = true → wpOrdC S P ops Q E s a w →
      wpAnyC S P md ops Q n (fun listed' a' w' => Region.seqB md ops g n listed' = true ∧ ∀ u, Grows w' u → E a' u) s.length listed a w
  | [], listed, a, w, inv, hB, h => ⟨hB, h⟩
  | (i, true) :: s, listed, a, w, inv, hB, h => by
    simp only [ordB, Bool.and_eq_true, decide_eq_true_eq] at hB
    obtain ⟨⟨⟨hin, hr⟩, hf⟩, hB'⟩ := hB
    obtain ⟨o, v, ho, hy, h'⟩ := h
    have hr' : i ∈ Region.ready md ops listed := by simpa using hr
    exact wpAnyC_first ho (Region.noSelect_spec hs) (fun c a w => hQ c a o.dst v w) hin (hwait i hin) (fun _ _ _ _ hg hl => ⟨hl.1, fun u hu => hl.2 u (Grows.trans hg hu)⟩) (fun _ _ _ hl => seqB_ready hl.1)
      s.length listed a w inv (Region.free_spec ho hf) hr' hy (wpAnyC_of_ord hs hQ hwait s _ _ w (inv.set hr' hin) hB' h')
  | (i, false) :: s, listed, a, w, inv, hB, h => by
    simp only [ordB, Bool.and_eq_true, decide_eq_true_eq] at hB
    obtain ⟨⟨hin, hr⟩, hB'⟩ := hB
    have hr' : Region.ready md ops listed = [i] := by simpa using hr
    have hm : i ∈ Region.ready md ops listed := by rw [hr']; simp
    refine ⟨fun h0 => (by rw [hr'] at h0; cases h0), fun j hj => ?_⟩
    rw [hr'] at hj
    have hji : j = i := by simpa using hj
    subst hji
    exact ⟨hin, fun u hu => wpOp_mono (fun a' w' h' => ⟨h'.1, wpAnyC_of_ord hs hQ hwait s _ a' w' (inv.set hm hin) hB' h'.2⟩) (h u hu)⟩

/-- THE RULE. -/
theorem wp_region_callw {id : Nat} {a : Act} {w : World} {l : List Oper} (n : Nat) (s : List (Nat × Bool)) (hm : P.follows .mixedOrders = true) (hB : ordWholeB l.toArray n s = true)
    (h : wpOrdC S P l.toArray (NoPanic Q) (fun a' u => wpList P l.toArray (NoPanic Q) (l.drop n) a' u) s a w.drew) : (Code.region id l.toArray true).wp P Q a w := by
  simp only [ordWholeB, Bool.and_eq_true, decide_eq_true_eq, Bool.or_eq_true, beq_iff_eq] at hB
  obtain ⟨⟨⟨⟨hsel, hn⟩, hc⟩, hl⟩, hord⟩ := hB
  have hdl : (l.drop n).length = l.toArray.size - n := by simp
  have inv0 : HeadInv .any l.toArray n (Array.replicate l.toArray.size false) :=
    ⟨by simp, fun j oj _ hl => (by rw [getD_replicate_false] at hl; cases hl), fun t _ ht => getD_in (by simpa using ht) (getD_replicate_false _ _)⟩
  have hwait : ∀ i, i < n → ∀ listed, HeadInv .any l.toArray n listed → listed.getD i true = false → ∀ j ∈ Region.ready .any l.toArray listed, j < n := fun i hi listed inv hun j hj => by
    rcases hc with hc | ⟨hs, hch⟩
    · obtain ⟨_, oj, hoj, _⟩ := mem_ready.1 hj
      have := (Array.getElem?_eq_some_iff.1 hoj).1
      omega
    · rcases Nat.lt_or_ge j n with h | h
      · exact h
      · have hjs : j < l.toArray.size := by
          obtain ⟨_, oj, hoj, _⟩ := mem_ready.1 hj
          exact (Array.getElem?_eq_some_iff.1 hoj).1
        exact absurd hj (tail_waits hs hch (by omega) inv _ i rfl hi hun j h)
  refine wp_region_noPanic (wp_region_any hm ?_)
  have H := wpAnyC_of_ord (md := .any) (g := l.toArray.size - n) (Q := NoPanic Q) hsel (fun c a d v w h => h) hwait s _ a w.drew inv0 hord h
  have := wpAny_of_C (Q := NoPanic Q) (g := l.toArray.size - n) (fun listed a' w' hL => by
    have := wpAny_of_seq (md := .any) (Q' := NoPanic Q) (l.drop n) n listed a' w' (fun j => by simp [List.getElem?_drop]) (by rw [hdl]; exact hL.1) (hL.2 w' (Grows.refl _))
    rwa [hdl] at this) _ _ _ _ H
  rw [hl, show n + (l.toArray.size - n) = l.toArray.size by omega] at this
  exact this

theorem orc_take {l : List Oper} {E : Act → World → Prop} {w0 w : World} {i : Nat} {s : List (Nat × Bool)} {a : Act} (h0 : Turns S w0 w) (o : Oper) (v : Value) (ho : l[i]? = some o)
    (hw : Region.wanted o (yielded l.toArray a.tmps) = true) (hy : ∀ u, Turns S w0 u → Turns S w u → (execOp a.eval o).run P u = .ok (.value v) u)
    (h : wpOrdC S P l.toArray Q E s (a.put o.dst v) w) : wpOrdC S P l.toArray Q E ((i, true) :: s) a w :=
  ⟨o, v, by simpa using ho, .inl ⟨hw, fun u hu => by unfold Oper.quietAt; rw [hy u (Turns.trans h0 hu) hu]; exact ⟨rfl, rfl⟩⟩, h⟩
/-- A call that yields one value, and lets the world but grow. -/
theorem orc_call {l : List Oper} {E : Act → World → Prop} {w0 w : World} {i : Nat} {s : List (Nat × Bool)} {a : Act} (h0 : Turns S w0 w) (o : Oper) (v : Value) (ho : l[i]? = some o)
    (hw : Region.wanted o (yielded l.toArray a.tmps) = true) (hy : ∀ u, Turns S w0 u → Turns S w u → Oper.quietUpon P (Grows u) u v ((execOp a.eval o).run P u))
    (h : wpOrdC S P l.toArray Q E s (a.put o.dst v) w) : wpOrdC S P l.toArray Q E ((i, true) :: s) a w :=
  ⟨o, v, by simpa using ho, .inl ⟨hw, fun u hu => hy u (Turns.trans h0 hu) hu⟩, h⟩
theorem orc_load {l : List Oper} {E : Act → World → Prop} {w0 w : World} {i : Nat} {s : List (Nat × Bool)} {a : Act} (h0 : Turns S w0 w) (o : Oper) (v : Value) (ho : l[i]? = some o)
    (hw : Region.wanted o (yielded l.toArray a.tmps) = true) (ty : TypeId) (x : Operand) (hop : o.op = .load ty x) (p : Option Addr) (hx : a.eval x = .pointer p)
    (hy : ∀ u, Turns S w0 u → (Instr.loadAt ty (.pointer p)).run P u = .ok v u)
    (h : wpOrdC S P l.toArray Q E s (a.put o.dst v) w) : wpOrdC S P l.toArray Q E ((i, true) :: s) a w :=
  orc_take h0 o v ho hw (fun u hu _ => exec_load hop hx (hy u hu)) h
theorem orc_skip {l : List Oper} {E : Act → World → Prop} {w : World} {i : Nat} {s : List (Nat × Bool)} {a : Act} (o : Oper) (ho : l[i]? = some o)
    (hw : Region.wanted o (yielded l.toArray a.tmps) = false) (h : wpOrdC S P l.toArray Q E s (a.put o.dst undef) w) : wpOrdC S P l.toArray Q E ((i, true) :: s) a w :=
  ⟨o, undef, by simpa using ho, .inr ⟨hw, rfl⟩, h⟩
theorem orc_move {l : List Oper} {E : Act → World → Prop} {w : World} {i : Nat} {s : List (Nat × Bool)} {a : Act} (o : Oper) (ho : l[i]? = some o)
    (hw : Region.wanted o (yielded l.toArray a.tmps) = true)
    (h : ∀ u, Grows w u → ∀ K : Act → World → Prop, Shut (∀ a' u', Turns S u u' → wpOrdC S P l.toArray Q E s a' u' → K a' u') → Oper.wp P o a u K Q) : wpOrdC S P l.toArray Q E ((i, false) :: s) a w := by
  intro u hu
  refine wpOp_step (by simpa using ho) fun K hK => ?_
  rw [if_pos hw]
  exact h u hu K fun a' w' hg hs => hK a' w' ⟨hg, hs⟩
theorem orc_pass {l : List Oper} {E : Act → World → Prop} {w : World} {i : Nat} {s : List (Nat × Bool)} {a : Act} (o : Oper) (ho : l[i]? = some o)
    (hw : Region.wanted o (yielded l.toArray a.tmps) = false) (h : ∀ u, Grows w u → wpOrdC S P l.toArray Q E s (a.put o.dst undef) u) : wpOrdC S P l.toArray Q E ((i, false) :: s) a w := by
  intro u hu
  refine wpOp_step (by simpa using ho) fun K hK => ?_
  rw [if_neg (by rw [hw]; exact Bool.false_ne_true)]
  exact hK _ _ ⟨Turns.refl S _, h u hu⟩
theorem orc_done {l : List Oper} {E : Act → World → Prop} {w : World} {a : Act} (h : ∀ u, Grows w u → E a u) : wpOrdC S P l.toArray Q E [] a w := h

/-- A value built of parts, as one operation of a region that draws its order. -/
theorem orc_build {l : List Oper} {E : Act → World → Prop} {w0 w : World} {i : Nat} {s : List (Nat × Bool)} {a : Act} (h0 : Turns S w0 w) (o : Oper) (v : Value) (ho : l[i]? = some o)
    (hw : Region.wanted o (yielded l.toArray a.tmps) = true) (t : TypeId) (parts : Array (Nat × Operand)) (hop : o.op = .build t parts) (ps : Array (Nat × Value)) (hy : ∀ u, (Instr.build t ps).run P u = .ok v u) (hp : (parts.map fun (i, x) => (i, a.eval x)) = ps)
    (h : wpOrdC S P l.toArray Q E s (a.put o.dst v) w) : wpOrdC S P l.toArray Q E ((i, true) :: s) a w :=
  orc_take h0 o v ho hw (fun u hu _ => by
    unfold execOp
    simp only [hop, hp, Sem.run_bind, hy u, Result.andThen_ok, Sem.run_pure]) h
/-- A slice built of parts. -/
theorem orc_bslice {l : List Oper} {E : Act → World → Prop} {w : World} {i : Nat} {s : List (Nat × Bool)} {a : Act} (o : Oper) (ho : l[i]? = some o)
    (hw : Region.wanted o (yielded l.toArray a.tmps) = true) (t : TypeId) (len : Nat) (parts : Array (Nat × Operand)) (hop : o.op = .buildSlice t len parts) (ps : Array (Nat × Value)) (cs : List Value) (e : TypeId)
    (hy : ∀ u, (Instr.buildSlice t len ps).run P u = .ok (.slice (some ⟨u.heap.size, 0, none⟩) len len) (u.alloc (.cells cs.toArray e))) (hp : (parts.map fun (i, x) => (i, a.eval x)) = ps)
    (h : ∀ u, Grows w u → wpOrdC S P l.toArray Q E s (a.put o.dst (.slice (some ⟨u.heap.size, 0, none⟩) len len)) (u.alloc (.cells cs.toArray e))) : wpOrdC S P l.toArray Q E ((i, false) :: s) a w :=
  orc_move o ho hw (fun u hu K hK => by
    unfold Oper.wp execOp
    simp only [hop, hp, Sem.run_bind, hy u, Result.andThen_ok, Sem.run_pure]
    exact hK.out _ _ (Turns.of_grows ((Grows.refl u).alloc (Nat.le_refl _) _)) (h u hu))
end
attribute [irreducible] wpOrdC
end Go.Proofs.Ytbcldknecdbemaa

/-
  The walk of DiskNames.
-/
namespace Go.Proofs.Ytbcldknecdbemaa
open Go.RowKit
set_option linter.unusedVariables false
set_option maxRecDepth 20000

/-- The disk behind j writes of one byte. -/
structure Nm (j : Nat) (D : Dk) : Prop where
  pow : D.power = -1
  room : D.room = 100
  weight : D.weight ≤ j
  waits : D.waits.length ≤ j
  seen : D.seen.length ≤ j
theorem nm_zero : Nm 0 (newD 100) := ⟨rfl, rfl, by simp [newD, Dk.weight, fUsed, dataSum], by simp [newD], by simp [newD]⟩
theorem put_len (S : Fls) (p b : Byts) : (fPut S p b).length ≤ S.length + 1 := by
  have h1 := (fPut_perm S (p := p) (b := b)).length_eq
  have h2 := (fDel_sub S p).length_le
  rw [h1]; simp; omega
theorem nm_write {j : Nat} {D : Dk} (h : Nm j D) (p : Byts) : Nm (j + 1) (writeD D p [49]).1 := by
  have hw := weight_write D p [49]
  have ha := waits_write D p [49]
  have h1 := h.weight
  have h2 := h.waits
  have h3 := h.seen
  simp only [List.length_cons, List.length_nil] at hw
  refine ⟨?_, by rw [room_write]; exact h.room, by omega, by omega, ?_⟩
  · unfold writeD
    split
    · exact h.pow
    · split
      · exact h.pow
      · split
        · exact h.pow
        · show (if 0 < D.power then D.power - 1 else D.power) = _
          rw [h.pow]; rfl
  · unfold writeD
    split
    · show D.seen.length ≤ _; omega
    · split
      · show D.seen.length ≤ _; omega
      · split
        · show D.seen.length ≤ _; omega
        · show (fPut D.seen p [49]).length ≤ _
          have := put_len D.seen p [49]
          omega

/-- Both disks at hand: the program's, the reference's in its box, four texts. -/
structure St (w : World) (a m gt B : Nat) (ts : List Value) (sv lv wv : Value) (D : Dk) (X : Nat → Prop) : Prop where
  dsk : Dsk w a m X D
  ref : RDk w (fun k => X k ∧ k ≠ B) sv lv wv D
  xs : ∀ k, X k → k < w.heap.size
  xb : X B
  box : Has w B [rv D.room, sv, lv, wv, rv D.power]
  txt : Has w gt ts
theorem St.later {w w' : World} {a m gt B : Nat} {ts : List Value} {sv lv wv : Value} {D : Dk} {X : Nat → Prop} (h : St w a m gt B ts sv lv wv D X) (hg : Grows w w') : St w' a m gt B ts sv lv wv D X :=
  ⟨h.dsk.later hg, h.ref.later hg, fun k hk => Nat.lt_of_lt_of_le (h.xs k hk) hg.size, h.xb, h.box.later hg, h.txt.later hg⟩
theorem op_storeT {P : Program} {w : World} {op : Oper} {a : Act} {Q : Exit → Act → World → Prop} {K : Act → World → Prop} (ty : TypeId) (x y : Operand) (ho : op.op = .store ty x y)
    (b : Nat) (vs vs' : List Value) (n : Nat) (hx : a.eval x = .pointer (some ⟨b, 0, none⟩)) (hy : a.eval y = .agg vs'.toArray) (hb : Has w b vs) (hl : vs.length = n) (hl' : vs'.length = n) (hi : (P.info? ty).map (·.size) = some n)
    (h1 : ∀ v ∈ vs', v.oneCell' = true) (h : ∀ w', Has w' b vs' → Turns (fun k => k = b) w w' → K (a.put op.dst undef) w') : Oper.wp P op a w K Q := by
  have hz : vs'.toArray.size = n := by simp [hl']
  refine wp_store_mid ty x y ho b 0 vs'.toArray hx hy (by rw [hz, ← hl]; exact hb.there) (by rw [hz]; exact hi) (all_oneCell_toArray h1) ?_
  exact h _ (hb.put_ (by rw [hl, hl'])) (turns_cells b _ 0 w)
def Xn (w w' : World) (X : Nat → Prop) (k : Nat) : Prop := (X k ∨ w.heap.size ≤ k) ∧ k < w'.heap.size
/-- The reference has gone on. -/
theorem St.gone {w w' : World} {a m gt B : Nat} {ts : List Value} {sv lv wv sv' lv' wv' : Value} {D D' : Dk} {X : Nat → Prop} (h : St w a m gt B ts sv lv wv D X) (ht : Turns (fun k => k = B) w w') (hr : RDk w' (fun k => (X k ∨ w.heap.size ≤ k) ∧ k ≠ B) sv' lv' wv' D') :
    Dsk w' a m (Xn w w' X) D ∧ RDk w' (fun k => Xn w w' X k ∧ k ≠ B) sv' lv' wv' D' ∧ Xn w w' X B :=
  have hB : Xn w w' X B := ⟨.inl h.xb, Nat.lt_of_lt_of_le (h.xs B h.xb) ht.size⟩
  ⟨(h.dsk.more (X' := Xn w w' X) (fun k hk => hk.1)).turned ht (fun k e hk => hk.2 (by rw [e]; exact hB)), hr.cut.mono (fun k hk => ⟨⟨hk.1.1, hk.2⟩, hk.1.2⟩), hB⟩
theorem preF_snoc {S : Fls} {k : Nat} {x : Byts × Byts} (h : S[k]? = some x) (q : Byts) : preF (S.take (k + 1)) q = if prefB x.1 q = true then preF (S.take k) q ++ [x.1] else preF (S.take k) q := by
  rw [take_at h]
  unfold preF
  rw [List.filter_append, List.map_append]
  by_cases hb : prefB x.1 q = true
  · rw [if_pos hb]; simp [hb]
  · rw [if_neg hb]
    have hb' : prefB x.1 q = false := by simpa using hb
    simp [hb']
theorem tv_ones (l : List Byts) : ∀ u ∈ l.map tv, u.oneCell' = true := fun u hu => by
  obtain ⟨x, _, rfl⟩ := List.mem_map.1 hu
  rfl

end Go.Proofs.Ytbcldknecdbemaa

/-
  Law 12's does: what it answers and leaves; what it is told.
-/
namespace Go.Proofs.Ytbcldknecdbemaa
open Go.RowKit
set_option linter.unusedVariables false
set_option maxRecDepth 20000

theorem ad_block (a : Addr) (i : Nat) : (a.add i).block = a.block := by unfold Addr.add; split <;> rfl
/-- What a deed does. -/
def doesD (D : Dk) (o : Deed) : Dk :=
  let k := around o.what 10
  if k = 4 then (renameD D (name12 o.p) (name12 o.to)).1
  else if k = 5 then (removeD D (name12 o.p)).1
  else if k = 6 then (syncD D).1
  else if k = 7 then (if Int.tmod o.n 3 = 0 then { D with power := max (Int.tmod o.n 7 - 1) (-1) } else D)
  else if k = 8 then (if Int.tmod o.n 2 = 0 then restartD D (o.keep.take 20) else D)
  else if k = 9 then D
  else (writeD D (name12 o.p) (o.b.take 30)).1
structure DoesIn (D : Dk) (sv lv wv : Value) (a m : Nat) (X ok : Nat → Prop) (w : World) (o : Deed) (A A' : Option Addr) (c c' : Nat) : Prop where
  dsk : Dsk w a m X D
  ref : RDk w ok sv lv wv D
  xs : ∀ k, X k → k < w.heap.size
  oks : ∀ k, ok k → X k
  bc : o.b.length ≤ c
  cm : c ≤ maxLen
  lb : Lies w m A (o.b.map bv)
  kc : o.keep.length ≤ c'
  km : c' ≤ maxLen
  lk : Lies w m A' (o.keep.map .bool)
  i1 : I64' o.what
  i2 : I64' o.p
  i3 : I64' o.to
  i4 : I64' o.n
  wt : D.weight ≤ 90000000
  wl : D.waits.length ≤ 100000
  sl : D.seen.length + D.lasts.length ≤ 100000
  pw : D.power ≤ 1000
  rm : 0 ≤ D.room ∧ D.room ≤ 1048576
def DoesOut (D' : Dk) (a m : Nat) (X ok : Nat → Prop) (w : World) (e : Ending) (w' : World) : Prop :=
  ∃ sv lv wv X', e = .returned (.tuple #[dV D' sv lv wv, .bool true]) ∧ Dsk w' a m X' D' ∧ RDk w' (fun k => X' k ∧ (ok k ∨ w.heap.size ≤ k)) sv lv wv D' ∧ (∀ k, X' k → k < w'.heap.size) ∧ (∀ k, X k → X' k) ∧ (∀ k, X' k → X k ∨ w.heap.size ≤ k) ∧ Turns (fun k => m ≤ k ∧ ¬ X k) w w'
end Go.Proofs.Ytbcldknecdbemaa

/-
  Law 12's does: Rename.
-/
namespace Go.Proofs.Ytbcldknecdbemaa
open Go.RowKit
set_option linter.unusedVariables false
set_option maxRecDepth 20000

set_option maxHeartbeats 4000000 in
theorem does_4 (D : Dk) (sv lv wv : Value) (a m : Nat) (X ok : Nat → Prop) (w : World) (o : Deed) (A A' : Option Addr) (c c' : Nat) (h : DoesIn D sv lv wv a m X ok w o A A' c c') (hK : around o.what 10 = 4) :
    Calls Try.prog 8 #[.pointer (some ⟨a, 0, none⟩), dV D sv lv wv, .agg #[rv o.what, rv o.p, rv o.to, rv o.n, .slice A o.b.length c, .slice A' o.keep.length c']] w fun e w' => DoesOut (doesD D o) a m X ok w e w' := by
  obtain ⟨hd, hr, hX, hok, hbc, hcm, hlb, hkc, hkm, hlk, i1, i2, i3, i4, hW, hn, hs, hp, hrm⟩ := h
  have hDL := dL_one hr
  unfold dL at hDL
  have hmw := hd.pos
  have NP := fun u => nameof12_any o.p u i2
  have NT := fun u => nameof12_any o.to u i3
  have FW := fun u (hg : Grows w u) => few_bytes A o.b.length c 30 o.b u rfl ((hlb.mono hmw).later hg) hbc (by omega) hcm
  have AR := fun u => around_any o.what 10 u i1 (by omega)
  have hol := hd.ok
  have hlow := hd.low
  have hpl := name12_len o.p
  have hql := name12_len o.to
  have hKo := hK
  generalize hKz : around o.what 10 = K at *
  rw [← hKz] at hKo
  clear hKz
  have h3 := three_b w [rv D.room, sv, lv, wv, rv D.power] [rv o.what, rv o.p, rv o.to, rv o.n, .slice A o.b.length c, .slice A' o.keep.length c'] zeroD 31 38 31 _ rfl
  obtain ⟨b4, b5, b6, g3, s3⟩ := h3
  have hkl : (o.keep.take 20).length = min o.keep.length 20 := by rw [List.length_take]; omega
  have hkt : (min (o.keep.length : Int) 20).toNat = min o.keep.length 20 := by omega
  have hmk : min o.keep.length 20 ≤ 20 ∧ min o.keep.length 20 ≤ o.keep.length := ⟨by omega, by omega⟩
  have hlk20 : Lies w m A' ((o.keep.take 20).map .bool) := fun j u hu => hlk j u (by
    rw [List.getElem?_map, List.getElem?_take] at hu
    split at hu
    · rw [List.getElem?_map]; exact hu
    · cases hu)
  have HDD : doesD D o = (renameD D (name12 o.p) (name12 o.to)).1 := by unfold doesD; rw [hKo]; rfl
  generalize hks : o.keep.take 20 = ks at *
  generalize hkz : min o.keep.length 20 = kn at *
  generalize hP : name12 o.p = p at *
  generalize hT : name12 o.to = q at *
  generalize hzw : o.what = zw at *
  generalize hzp : o.p = zp at *
  generalize hzt : o.to = zt at *
  generalize hzn : o.n = zn at *
  generalize hkL : o.keep.length = kl at *
  generalize hbL : o.b.length = bl at *
  have hdl : (o.b.take 30).length = min bl 30 := by rw [List.length_take, hbL]; omega
  generalize hdd : o.b.take 30 = d at *
  have hnb : min bl 30 ≤ 30 := by omega
  generalize hnbz : min bl 30 = nb at *
  clear hP hT hkz hkL hbL hdd hnbz hks hzw hzp hzt hzn
  obtain ⟨w3, hw3⟩ : ∃ w3, w3 = ((w.alloc (.cells [rv D.room, sv, lv, wv, rv D.power].toArray 31)).alloc (.cells [rv zw, rv zp, rv zt, rv zn, .slice A bl c, .slice A' kl c'].toArray 38)).alloc (.cells zeroD.toArray 31) := ⟨_, rfl⟩
  rw [← hw3] at b4 b5 b6 g3 s3
  have HW3 := Lib.hid hw3
  clear hw3
  go_enter Try.func8, Try.ntmps8
  go_wp2_with fail
  change Calls _ _ _ (((w.alloc (.cells [rv D.room, sv, lv, wv, rv D.power].toArray 31)).alloc (.cells [rv zw, rv zp, rv zt, rv zn, .slice A bl c, .slice A' kl c'].toArray 38)).alloc (.cells zeroD.toArray 31)) _
  rw [← HW3.out, show w.heap.size + 1 + 1 = w.heap.size + 2 from rfl]
  clear HW3
  generalize hB4 : w.heap.size = B4 at *
  generalize hB5 : B4 + 1 = B5 at *
  generalize hB6 : B4 + 2 = B6 at *
  have HB := Lib.hid (show B5 = B4 + 1 ∧ B6 = B4 + 2 ∧ w.heap.size = B4 from ⟨hB5.symm, hB6.symm, hB4⟩)
  clear hB4 hB5 hB6
  refine (NP w3).mono ?_
  rintro e w4 ⟨rfl, g4⟩
  have y4 := (b5.later g4).cell (k := 4) rfl
  go_wp2_with fail
  refine (FW w4 (Grows.trans g3 g4)).mono ?_
  rintro e w5 ⟨Ab, cb, rfl, hcb, hown, hL5, g5⟩
  have y0 := (b5.later (Grows.trans g4 g5)).cell (k := 0) rfl
  have y5 := (b5.later (Grows.trans g4 g5)).cell (k := 5) rfl
  have F5 := fresh_own hown (Nat.le_refl _)
  clear y4 hown
  go_wp2_with fail
  refine (AR w5).mono ?_
  rintro e w6 ⟨rfl, rfl⟩
  have G5 : Grows w w5 := Grows.trans g3 (Grows.trans g4 g5)
  have h34 := (Grows.trans g4 g5).size
  have b4 := b4.later (Grows.trans g4 g5)
  have b5 := b5.later (Grows.trans g4 g5)
  have b6 := b6.later (Grows.trans g4 g5)
  have x0 := b4.cell (k := 0) rfl
  have x1 := b4.cell (k := 1) rfl
  have x2 := b4.cell (k := 2) rfl
  have x3 := b4.cell (k := 3) rfl
  have x4 := b4.cell (k := 4) rfl
  have y2 := b5.cell (k := 2) rfl
  have y3 := b5.cell (k := 3) rfl
  have hs5 : B6 < w5.heap.size ∧ B4 < B6 ∧ B4 < w5.heap.size := by have := HB.out; omega
  clear y0 y5 g3 g4 g5 h34 s3 AR NP FW hkt hbc hlb
  subst hK
  have SR := fun u (h : Grows w5 u) => rename_r D sv lv wv u ok p q (hr.later (Grows.trans G5 h)) (by omega) (by omega) ⟨hlow, by omega⟩ (by omega)
  have SD := fun (u : World) (X' : Nat → Prop) (h : Dsk u a m X' D) (hx : ∀ k, X' k → k < u.heap.size) => rename_d a m X' D u p q h hx (by omega) (by omega) (by omega)
  obtain ⟨R, hR⟩ : ∃ R, R = renameD D p q := ⟨_, rfl⟩
  have HD : Hid (doesD D o = R.1) := by rw [hR]; exact HDD
  rw [← hR] at SR SD
  clear hR hKo
  obtain ⟨D', r⟩ := R
  simp only at SR SD HD
  have gd5 := (Grows.refl w5).drew
  have ld : ∀ u, Grows w5.drew u → (Instr.loadAt 31 (.pointer (some ⟨B4, 0, none⟩))).run Try.prog u = .ok (dV D sv lv wv) u := fun u h => (b4.later (Grows.trans gd5 h)).load Try.underlying31 rfl d_size
  have f0 : ∀ u, Grows w5.drew u → u.cell? ⟨B5, 2, none⟩ = some (rv zt) := fun u h => hcell_later y2 (Grows.trans gd5 h)
  clear x0 x1 x2 x3 x4 y2 y3
  go_wp2_with fail
  refine wp_region_ov 10 (OV.ofS [(0, true), (1, true), (2, true), (3, true), (4, true)] (.both 5 9 (.pure 6 (.pure 7 (.pure 8 (.move 9 (.move 10 (.pure 11 .done)))))) (.move 5 (.pure 6 (.pure 7 (.pure 8 (.move 10 (.pure 11 .done)))))))) (by kernel_rfl) (by kernel_rfl) ?_
  refine ov_of_ord _ _ _ _ ?_
  have hO := Grows.refl w5.drew
  repeat (first | (refine ord_load hO _ _ (by simp only [List.getElem?_cons_succ, List.getElem?_cons_zero]; rfl) (by rfl) 31 (.tmp 4) (by rfl) _ (by rfl) ld ?_; try simp only [Act.put, List.setIfInBounds_toArray, List.set_cons_zero, List.set_cons_succ]) | (refine ord_take hO _ ?_ (by simp only [List.getElem?_cons_succ, List.getElem?_cons_zero]; rfl) (by rfl) ?_ ?_; rotate_left; (· (intro u hu0 hu; (try go_simp); (try with_reducible rfl))); try simp only [Act.put, List.setIfInBounds_toArray, List.set_cons_zero, List.set_cons_succ]) | (refine ord_skip _ (by simp only [List.getElem?_cons_succ, List.getElem?_cons_zero]; rfl) (by rfl) ?_; try simp only [Act.put, List.setIfInBounds_toArray, List.set_cons_zero, List.set_cons_succ]) | (refine ord_call hO _ ?_ (by simp only [List.getElem?_cons_succ, List.getElem?_cons_zero]; rfl) (by rfl) ?_ ?_; rotate_left; (· (intro u hu0 hu; go_simp; (try refine quiet_enter ?_); (exact NT u))); try simp only [Act.put, List.setIfInBounds_toArray, List.set_cons_zero, List.set_cons_succ]))
  refine ord_done (fun u1 hu1 => ?_)
  refine ov_both (fun u hu => ?_) (fun u hu => ?_)
  · have Gu : Grows w5 u := Grows.trans gd5 (Grows.trans hu1 hu)
    (refine ov_op _ (by simp only [List.getElem?_cons_succ, List.getElem?_cons_zero]; rfl) (by rfl) (fun K hK => ?_); go_simp)
    refine (SR u Gu).mono ?_
    rintro e w6 ⟨sv', wv', rfl, r6, g6⟩
    refine hK.out _ _ ⟨fun _ => g6, ?_⟩
    clear hK K hO ld f0
    repeat (refine ov_pure _ ?_ (by simp only [List.getElem?_cons_succ, List.getElem?_cons_zero]; rfl) (by rfl) ?_ ?_; rotate_left; (· (intro u; (try go_simp); (try with_reducible rfl))); try simp only [Act.put, List.setIfInBounds_toArray, List.set_cons_zero, List.set_cons_succ])
    refine ov_move (fun u5 hu5 => ?_)
    (refine ov_op _ (by simp only [List.getElem?_cons_succ, List.getElem?_cons_zero]; rfl) (by rfl) (fun K hK => ?_); go_simp)
    refine hK.out _ _ ⟨fun _ => grows_alloc _ _, ?_⟩
    clear hK K
    have hgu := Gu.size
    have hg5 := g6.size
    have hgu5 := hu5.size
    have r7 := (r6.cut.mono (ok' := fun k => (ok k ∨ w5.heap.size ≤ k) ∧ k ≠ u5.heap.size) (fun k hk => by
      obtain ⟨hk | hk, h2⟩ := hk
      · exact ⟨.inl hk, by omega⟩
      · exact ⟨.inr (by omega), by omega⟩)).later (Grows.trans hu5 (grows_alloc u5 (.cells zeroD.toArray 31)))
    have hbx := Has.new u5 31 zeroD
    have G7 := Grows.trans Gu (Grows.trans g6 (Grows.trans hu5 (grows_alloc u5 (.cells zeroD.toArray 31))))
    have h5n : w5.heap.size ≤ u5.heap.size := (Grows.trans Gu (Grows.trans g6 hu5)).size
    change wpOV _ _ _ _ _ _ (u5.alloc (.cells zeroD.toArray 31))
    generalize u5.alloc (.cells zeroD.toArray 31) = w7 at *
    generalize u5.heap.size = nx at *
    have hone := dL_one r7
    unfold dL at hone
    repeat (refine ov_pure _ ?_ (by simp only [List.getElem?_cons_succ, List.getElem?_cons_zero]; rfl) (by rfl) ?_ ?_; rotate_left; (· (intro u; (try go_simp); (try with_reducible rfl))); try simp only [Act.put, List.setIfInBounds_toArray, List.set_cons_zero, List.set_cons_succ])
    refine ov_move (fun u8 hu8 => ?_)
    (refine ov_op _ (by simp only [List.getElem?_cons_succ, List.getElem?_cons_zero]; rfl) (by rfl) (fun K hK => ?_))
    refine op_storeT 31 (.tmp 11) (.tmp 48) rfl nx _ [rv D'.room, sv', lv, wv', rv D'.power] 5 rfl rfl (hbx.later hu8) rfl rfl d_size hone ?_
    intro w8 b8 t8
    refine hK.out _ _ ⟨fun h => absurd h (by omega), ?_⟩
    clear hK K
    repeat (refine ov_pure _ ?_ (by simp only [List.getElem?_cons_succ, List.getElem?_cons_zero]; rfl) (by rfl) ?_ ?_; rotate_left; (· (intro u; (try go_simp); (try with_reducible rfl))); try simp only [Act.put, List.setIfInBounds_toArray, List.set_cons_zero, List.set_cons_succ])
    refine ov_done (fun w9 hu9 => ?_)
    refine NoPanic.normal ?_
    have G59 : Grows w5 w9 := Grows.trans (((Turns.of_grows (S := fun k => w5.heap.size ≤ k) (Grows.trans G7 hu8)).trans (t8.mono fun k _ e => by rw [e]; exact h5n)).grows (fun k h1 h2 => by omega)) hu9
    have b9 := b8.later hu9
    have hs9 : nx < w9.heap.size := b9.lt
    have r9 := ((((r7.later hu8).turned t8 (fun k hk e => hk.2 e)).later hu9).cut).mono (ok' := fun k => (ok k ∨ w5.heap.size ≤ k) ∧ k < w9.heap.size ∧ k ≠ nx) (fun k hk => ⟨hk.1.1, hk.2, hk.1.2⟩)
    clear r7 b8 t8 hbx hu9 hu8 G7
    obtain ⟨lv', hsv⟩ : ∃ x, x = lv := ⟨_, rfl⟩
    rw [← hsv] at r9 b9 hone ⊢
    clear hsv
    go_wp2_with fail
    have G9 := Grows.trans G5 G59
    have b5 := b5.later G59
    have b6 := b6.later G59
    have xB6 : Xn w w9 X B6 := ⟨.inr (by have := HB.out; omega), by have := HB.out; omega⟩
    have xB5 : Xn w w9 X B5 := ⟨.inr (by have := HB.out; omega), by have := HB.out; omega⟩
    have xB : Xn w w9 X nx := ⟨.inr (by have := HB.out; omega), by omega⟩
    have d9 := (hd.more (X' := Xn w w9 X) (fun k hk => hk.1)).later G9
    have r9 := r9.mono (ok' := fun k => (Xn w w9 X k ∧ (ok k ∨ w.heap.size ≤ k)) ∧ k ≠ B6) (fun k hk => by
      obtain ⟨hk | hk, h2, h3⟩ := hk <;> have := HB.out
      · exact ⟨⟨⟨.inl (hok k hk), h2⟩, .inl hk⟩, by have := hX k (hok k hk); omega⟩
      · exact ⟨⟨⟨.inr (by omega), h2⟩, .inr (by omega)⟩, by omega⟩)
    have gd := (Grows.refl w9).drew
    have hn6 : nx ≠ B6 := by have := HB.out; omega
    have hm6 : m ≤ B6 := by have := HB.out; omega
    have ldn : ∀ u, Turns (fun k => (m ≤ k ∧ ¬ Xn w w9 X k) ∨ k = B6) w9.drew u → (Instr.loadAt 31 (.pointer (some ⟨nx, 0, none⟩))).run Try.prog u = .ok (dV D' sv' lv' wv') u := fun u h => ((b9.later gd).turned h (fun e => e.elim (fun e => e.2 xB) hn6)).load Try.underlying31 rfl d_size
    have yt : ∀ u, Turns (fun k => (m ≤ k ∧ ¬ Xn w w9 X k) ∨ k = B6) w9.drew u → u.cell? ⟨B5, 2, none⟩ = some (rv zt) := fun u h => ((b5.later gd).turned h (fun e => e.elim (fun e => e.2 xB5) (fun e => by have := HB.out; omega))).cell (k := 2) rfl
    have hO := Turns.refl (fun k => (m ≤ k ∧ ¬ Xn w w9 X k) ∨ k = B6) w9.drew
    refine wp_region_callw (S := fun k => (m ≤ k ∧ ¬ Xn w w9 X k) ∨ k = B6) 11 [(0, true), (1, true), (2, true), (3, true), (4, true), (5, true), (7, true), (6, false), (8, true), (9, false), (10, true)] (by kernel_rfl) (by kernel_rfl) ?_
    repeat (first | (refine orc_load hO _ _ (by simp only [List.getElem?_cons_succ, List.getElem?_cons_zero]; rfl) (by rfl) 31 (.tmp 11) (by rfl) _ (by rfl) ldn ?_; try simp only [Act.put, List.setIfInBounds_toArray, List.set_cons_zero, List.set_cons_succ]) | (refine orc_take hO _ ?_ (by simp only [List.getElem?_cons_succ, List.getElem?_cons_zero]; rfl) (by rfl) ?_ ?_; rotate_left; (· (intro u hu0 hu; (try go_simp); (try with_reducible rfl))); try simp only [Act.put, List.setIfInBounds_toArray, List.set_cons_zero, List.set_cons_succ]) | (refine orc_call hO _ ?_ (by simp only [List.getElem?_cons_succ, List.getElem?_cons_zero]; rfl) (by rfl) ?_ ?_; rotate_left; (· (intro u hu0 hu; go_simp; (try refine quiet_enter ?_); (exact NT u))); try simp only [Act.put, List.setIfInBounds_toArray, List.set_cons_zero, List.set_cons_succ]))
    refine orc_move _ (by simp only [List.getElem?_cons_succ, List.getElem?_cons_zero]; rfl) (by rfl) (fun u hu K hK => ?_)
    go_simp
    have gu := Grows.trans gd hu
    refine (SD u _ (d9.later gu) (fun k hk => Nat.lt_of_lt_of_le hk.2 gu.size)).mono ?_
    rintro e v1 ⟨rfl, d1, t1⟩
    refine hK.out _ _ (t1.mono fun k _ e => .inl e) ?_
    clear hK K ldn hO
    have hO := Turns.refl (fun k => (m ≤ k ∧ ¬ Xn w w9 X k) ∨ k = B6) v1
    repeat (refine orc_take hO _ ?_ (by simp only [List.getElem?_cons_succ, List.getElem?_cons_zero]; rfl) (by rfl) ?_ ?_; rotate_left; (· (intro u hu0 hu; (try go_simp); (try with_reducible rfl))); try simp only [Act.put, List.setIfInBounds_toArray, List.set_cons_zero, List.set_cons_succ])
    refine orc_move _ (by simp only [List.getElem?_cons_succ, List.getElem?_cons_zero]; rfl) (by rfl) (fun u3 hu3 K hK => ?_)
    have b6 := (((b6.later gu).turned t1 (fun e => e.2 xB6)).later hu3)
    have r3 := ((r9.later gu).turned t1 (fun k hk e => e.2 hk.1.1)).later hu3
    have d3 := d1.later hu3
    have T3 : Turns (fun k => m ≤ k ∧ ¬ X k) w u3 := ((Turns.of_grows (Grows.trans G9 gu)).then_ t1 (fun k hk e => ⟨e.1, fun hx => e.2 ⟨.inl hx, Nat.lt_of_lt_of_le hk G9.size⟩⟩)).trans (Turns.of_grows hu3)
    have hsz := ((Turns.of_grows (S := fun k => m ≤ k ∧ ¬ Xn w w9 X k) gu).trans (t1.trans (Turns.of_grows hu3))).size
    clear d1 t1 hu3 b9 hO
    refine op_storeT 31 (.tmp 6) (.tmp 50) rfl B6 _ [rv D'.room, sv', lv', wv', rv D'.power] 5 rfl rfl b6 rfl rfl d_size hone ?_
    intro w12 b12 t12
    refine hK.out _ _ (t12.mono fun k _ e => .inr e) ?_
    clear hK K
    have hO := Turns.refl (fun k => (m ≤ k ∧ ¬ Xn w w9 X k) ∨ k = B6) w12
    repeat (refine orc_take hO _ ?_ (by simp only [List.getElem?_cons_succ, List.getElem?_cons_zero]; rfl) (by rfl) ?_ ?_; rotate_left; (· (intro u hu0 hu; (try go_simp); (try with_reducible rfl))); try simp only [Act.put, List.setIfInBounds_toArray, List.set_cons_zero, List.set_cons_succ])
    refine orc_done (fun u5 hu5 => ?_)
    simp only [List.drop_succ_cons, List.drop_zero]
    clear hO
    have b12 := b12.later hu5
    go_wp2_with fail
    refine NoPanic.normal ?_
    go_wp2_with fail
    (try simp only [Exit.inBlock, Exit.then])
    refine bodyPost_ret (res_has_two (vs := [rv D'.room, sv', lv', wv', rv D'.power]) Try.results8 _ rfl Try.underlying31 rfl d_size b12) rfl ?_
    refine ⟨sv', lv', wv', Xn w w9 X, by rw [HD.out]; simp [dV], by rw [HD.out]; exact (d3.turned t12 (fun k e h => h.2 (by rw [e]; exact xB6))).later hu5, by rw [HD.out]; exact ((r3.turned t12 (fun k hk e => hk.2 e)).mono (fun k hk => hk.1)).later hu5, fun k hk => Nat.lt_of_lt_of_le hk.2 (Nat.le_trans hsz (Nat.le_trans t12.size hu5.size)), fun k hk => ⟨.inl hk, by have := HB.out; have := hX k hk; have := G9.size; omega⟩, fun k hk => hk.1, (T3.then_ t12 (fun k hk e => by have := HB.out; omega)).trans (Turns.of_grows hu5)⟩
  · have Gu : Grows w5 u := Grows.trans gd5 (Grows.trans hu1 hu)
    (refine ov_op _ (by simp only [List.getElem?_cons_succ, List.getElem?_cons_zero]; rfl) (by rfl) (fun K hK => ?_); go_simp)
    refine hK.out _ _ ⟨fun _ => grows_alloc _ _, ?_⟩
    clear hK K hO ld f0
    have hbx5 := Has.new u 31 zeroD
    have g5a := Grows.trans Gu (grows_alloc u (.cells zeroD.toArray 31))
    have h5n : w5.heap.size ≤ u.heap.size := Gu.size
    change wpOV _ _ _ _ _ _ (u.alloc (.cells zeroD.toArray 31))
    generalize u.alloc (.cells zeroD.toArray 31) = w6 at *
    generalize u.heap.size = nx at *
    refine ov_move (fun u5 hu5 => ?_)
    (refine ov_op _ (by simp only [List.getElem?_cons_succ, List.getElem?_cons_zero]; rfl) (by rfl) (fun K hK => ?_); go_simp)
    refine (SR u5 (Grows.trans g5a hu5)).mono ?_
    rintro e w7 ⟨sv', wv', rfl, r6, g7⟩
    refine hK.out _ _ ⟨fun _ => g7, ?_⟩
    clear hK K
    have hbl := (hbx5.later hu5).lt
    have r7 := r6.mono (ok' := fun k => (ok k ∨ w5.heap.size ≤ k) ∧ k ≠ nx) (fun k hk => by
      have := HB.out
      rcases hk with hk | hk
      · exact ⟨.inl hk, by have := hX k (hok k hk); omega⟩
      · exact ⟨.inr (by have := (Grows.trans g5a hu5).size; omega), by omega⟩)
    have hbx := hbx5.later (Grows.trans hu5 g7)
    have G7 := Grows.trans g5a (Grows.trans hu5 g7)
    have hone := dL_one r7
    unfold dL at hone
    repeat (refine ov_pure _ ?_ (by simp only [List.getElem?_cons_succ, List.getElem?_cons_zero]; rfl) (by rfl) ?_ ?_; rotate_left; (· (intro u; (try go_simp); (try with_reducible rfl))); try simp only [Act.put, List.setIfInBounds_toArray, List.set_cons_zero, List.set_cons_succ])
    refine ov_move (fun u8 hu8 => ?_)
    (refine ov_op _ (by simp only [List.getElem?_cons_succ, List.getElem?_cons_zero]; rfl) (by rfl) (fun K hK => ?_))
    refine op_storeT 31 (.tmp 11) (.tmp 48) rfl nx _ [rv D'.room, sv', lv, wv', rv D'.power] 5 rfl rfl (hbx.later hu8) rfl rfl d_size hone ?_
    intro w8 b8 t8
    refine hK.out _ _ ⟨fun h => absurd h (by omega), ?_⟩
    clear hK K
    repeat (refine ov_pure _ ?_ (by simp only [List.getElem?_cons_succ, List.getElem?_cons_zero]; rfl) (by rfl) ?_ ?_; rotate_left; (· (intro u; (try go_simp); (try with_reducible rfl))); try simp only [Act.put, List.setIfInBounds_toArray, List.set_cons_zero, List.set_cons_succ])
    refine ov_done (fun w9 hu9 => ?_)
    refine NoPanic.normal ?_
    have G59 : Grows w5 w9 := Grows.trans (((Turns.of_grows (S := fun k => w5.heap.size ≤ k) (Grows.trans G7 hu8)).trans (t8.mono fun k _ e => by rw [e]; exact h5n)).grows (fun k h1 h2 => by omega)) hu9
    have b9 := b8.later hu9
    have hs9 : nx < w9.heap.size := b9.lt
    have r9 := ((((r7.later hu8).turned t8 (fun k hk e => hk.2 e)).later hu9).cut).mono (ok' := fun k => (ok k ∨ w5.heap.size ≤ k) ∧ k < w9.heap.size ∧ k ≠ nx) (fun k hk => ⟨hk.1.1, hk.2, hk.1.2⟩)
    clear r7 b8 t8 hbx hu9 hu8 G7
    obtain ⟨lv', hsv⟩ : ∃ x, x = lv := ⟨_, rfl⟩
    rw [← hsv] at r9 b9 hone ⊢
    clear hsv
    go_wp2_with fail
    have G9 := Grows.trans G5 G59
    have b5 := b5.later G59
    have b6 := b6.later G59
    have xB6 : Xn w w9 X B6 := ⟨.inr (by have := HB.out; omega), by have := HB.out; omega⟩
    have xB5 : Xn w w9 X B5 := ⟨.inr (by have := HB.out; omega), by have := HB.out; omega⟩
    have xB : Xn w w9 X nx := ⟨.inr (by have := HB.out; omega), by omega⟩
    have d9 := (hd.more (X' := Xn w w9 X) (fun k hk => hk.1)).later G9
    have r9 := r9.mono (ok' := fun k => (Xn w w9 X k ∧ (ok k ∨ w.heap.size ≤ k)) ∧ k ≠ B6) (fun k hk => by
      obtain ⟨hk | hk, h2, h3⟩ := hk <;> have := HB.out
      · exact ⟨⟨⟨.inl (hok k hk), h2⟩, .inl hk⟩, by have := hX k (hok k hk); omega⟩
      · exact ⟨⟨⟨.inr (by omega), h2⟩, .inr (by omega)⟩, by omega⟩)
    have gd := (Grows.refl w9).drew
    have hn6 : nx ≠ B6 := by have := HB.out; omega
    have hm6 : m ≤ B6 := by have := HB.out; omega
    have ldn : ∀ u, Turns (fun k => (m ≤ k ∧ ¬ Xn w w9 X k) ∨ k = B6) w9.drew u → (Instr.loadAt 31 (.pointer (some ⟨nx, 0, none⟩))).run Try.prog u = .ok (dV D' sv' lv' wv') u := fun u h => ((b9.later gd).turned h (fun e => e.elim (fun e => e.2 xB) hn6)).load Try.underlying31 rfl d_size
    have yt : ∀ u, Turns (fun k => (m ≤ k ∧ ¬ Xn w w9 X k) ∨ k = B6) w9.drew u → u.cell? ⟨B5, 2, none⟩ = some (rv zt) := fun u h => ((b5.later gd).turned h (fun e => e.elim (fun e => e.2 xB5) (fun e => by have := HB.out; omega))).cell (k := 2) rfl
    have hO := Turns.refl (fun k => (m ≤ k ∧ ¬ Xn w w9 X k) ∨ k = B6) w9.drew
    refine wp_region_callw (S := fun k => (m ≤ k ∧ ¬ Xn w w9 X k) ∨ k = B6) 11 [(0, true), (1, true), (2, true), (3, true), (4, true), (5, true), (7, true), (6, false), (8, true), (9, false), (10, true)] (by kernel_rfl) (by kernel_rfl) ?_
    repeat (first | (refine orc_load hO _ _ (by simp only [List.getElem?_cons_succ, List.getElem?_cons_zero]; rfl) (by rfl) 31 (.tmp 11) (by rfl) _ (by rfl) ldn ?_; try simp only [Act.put, List.setIfInBounds_toArray, List.set_cons_zero, List.set_cons_succ]) | (refine orc_take hO _ ?_ (by simp only [List.getElem?_cons_succ, List.getElem?_cons_zero]; rfl) (by rfl) ?_ ?_; rotate_left; (· (intro u hu0 hu; (try go_simp); (try with_reducible rfl))); try simp only [Act.put, List.setIfInBounds_toArray, List.set_cons_zero, List.set_cons_succ]) | (refine orc_call hO _ ?_ (by simp only [List.getElem?_cons_succ, List.getElem?_cons_zero]; rfl) (by rfl) ?_ ?_; rotate_left; (· (intro u hu0 hu; go_simp; (try refine quiet_enter ?_); (exact NT u))); try simp only [Act.put, List.setIfInBounds_toArray, List.set_cons_zero, List.set_cons_succ]))
    refine orc_move _ (by simp only [List.getElem?_cons_succ, List.getElem?_cons_zero]; rfl) (by rfl) (fun u hu K hK => ?_)
    go_simp
    have gu := Grows.trans gd hu
    refine (SD u _ (d9.later gu) (fun k hk => Nat.lt_of_lt_of_le hk.2 gu.size)).mono ?_
    rintro e v1 ⟨rfl, d1, t1⟩
    refine hK.out _ _ (t1.mono fun k _ e => .inl e) ?_
    clear hK K ldn hO
    have hO := Turns.refl (fun k => (m ≤ k ∧ ¬ Xn w w9 X k) ∨ k = B6) v1
    repeat (refine orc_take hO _ ?_ (by simp only [List.getElem?_cons_succ, List.getElem?_cons_zero]; rfl) (by rfl) ?_ ?_; rotate_left; (· (intro u hu0 hu; (try go_simp); (try with_reducible rfl))); try simp only [Act.put, List.setIfInBounds_toArray, List.set_cons_zero, List.set_cons_succ])
    refine orc_move _ (by simp only [List.getElem?_cons_succ, List.getElem?_cons_zero]; rfl) (by rfl) (fun u3 hu3 K hK => ?_)
    have b6 := (((b6.later gu).turned t1 (fun e => e.2 xB6)).later hu3)
    have r3 := ((r9.later gu).turned t1 (fun k hk e => e.2 hk.1.1)).later hu3
    have d3 := d1.later hu3
    have T3 : Turns (fun k => m ≤ k ∧ ¬ X k) w u3 := ((Turns.of_grows (Grows.trans G9 gu)).then_ t1 (fun k hk e => ⟨e.1, fun hx => e.2 ⟨.inl hx, Nat.lt_of_lt_of_le hk G9.size⟩⟩)).trans (Turns.of_grows hu3)
    have hsz := ((Turns.of_grows (S := fun k => m ≤ k ∧ ¬ Xn w w9 X k) gu).trans (t1.trans (Turns.of_grows hu3))).size
    clear d1 t1 hu3 b9 hO
    refine op_storeT 31 (.tmp 6) (.tmp 50) rfl B6 _ [rv D'.room, sv', lv', wv', rv D'.power] 5 rfl rfl b6 rfl rfl d_size hone ?_
    intro w12 b12 t12
    refine hK.out _ _ (t12.mono fun k _ e => .inr e) ?_
    clear hK K
    have hO := Turns.refl (fun k => (m ≤ k ∧ ¬ Xn w w9 X k) ∨ k = B6) w12
    repeat (refine orc_take hO _ ?_ (by simp only [List.getElem?_cons_succ, List.getElem?_cons_zero]; rfl) (by rfl) ?_ ?_; rotate_left; (· (intro u hu0 hu; (try go_simp); (try with_reducible rfl))); try simp only [Act.put, List.setIfInBounds_toArray, List.set_cons_zero, List.set_cons_succ])
    refine orc_done (fun u5 hu5 => ?_)
    simp only [List.drop_succ_cons, List.drop_zero]
    clear hO
    have b12 := b12.later hu5
    go_wp2_with fail
    refine NoPanic.normal ?_
    go_wp2_with fail
    (try simp only [Exit.inBlock, Exit.then])
    refine bodyPost_ret (res_has_two (vs := [rv D'.room, sv', lv', wv', rv D'.power]) Try.results8 _ rfl Try.underlying31 rfl d_size b12) rfl ?_
    refine ⟨sv', lv', wv', Xn w w9 X, by rw [HD.out]; simp [dV], by rw [HD.out]; exact (d3.turned t12 (fun k e h => h.2 (by rw [e]; exact xB6))).later hu5, by rw [HD.out]; exact ((r3.turned t12 (fun k hk e => hk.2 e)).mono (fun k hk => hk.1)).later hu5, fun k hk => Nat.lt_of_lt_of_le hk.2 (Nat.le_trans hsz (Nat.le_trans t12.size hu5.size)), fun k hk => ⟨.inl hk, by have := HB.out; have := hX k hk; have := G9.size; omega⟩, fun k hk => hk.1, (T3.then_ t12 (fun k hk e => by have := HB.out; omega)).trans (Turns.of_grows hu5)⟩
end Go.Proofs.Ytbcldknecdbemaa

/-
  Law 12's does: Remove.
-/
namespace Go.Proofs.Ytbcldknecdbemaa
open Go.RowKit
set_option linter.unusedVariables false
set_option maxRecDepth 20000

set_option maxHeartbeats 4000000 in
theorem does_5 (D : Dk) (sv lv wv : Value) (a m : Nat) (X ok : Nat → Prop) (w : World) (o : Deed) (A A' : Option Addr) (c c' : Nat) (h : DoesIn D sv lv wv a m X ok w o A A' c c') (hK : around o.what 10 = 5) :
    Calls Try.prog 8 #[.pointer (some ⟨a, 0, none⟩), dV D sv lv wv, .agg #[rv o.what, rv o.p, rv o.to, rv o.n, .slice A o.b.length c, .slice A' o.keep.length c']] w fun e w' => DoesOut (doesD D o) a m X ok w e w' := by
  obtain ⟨hd, hr, hX, hok, hbc, hcm, hlb, hkc, hkm, hlk, i1, i2, i3, i4, hW, hn, hs, hp, hrm⟩ := h
  have hDL := dL_one hr
  unfold dL at hDL
  have hmw := hd.pos
  have NP := fun u => nameof12_any o.p u i2
  have NT := fun u => nameof12_any o.to u i3
  have FW := fun u (hg : Grows w u) => few_bytes A o.b.length c 30 o.b u rfl ((hlb.mono hmw).later hg) hbc (by omega) hcm
  have AR := fun u => around_any o.what 10 u i1 (by omega)
  have hol := hd.ok
  have hlow := hd.low
  have hpl := name12_len o.p
  have hql := name12_len o.to
  have hKo := hK
  generalize hKz : around o.what 10 = K at *
  rw [← hKz] at hKo
  clear hKz
  have h3 := three_b w [rv D.room, sv, lv, wv, rv D.power] [rv o.what, rv o.p, rv o.to, rv o.n, .slice A o.b.length c, .slice A' o.keep.length c'] zeroD 31 38 31 _ rfl
  obtain ⟨b4, b5, b6, g3, s3⟩ := h3
  have hkl : (o.keep.take 20).length = min o.keep.length 20 := by rw [List.length_take]; omega
  have hkt : (min (o.keep.length : Int) 20).toNat = min o.keep.length 20 := by omega
  have hmk : min o.keep.length 20 ≤ 20 ∧ min o.keep.length 20 ≤ o.keep.length := ⟨by omega, by omega⟩
  have hlk20 : Lies w m A' ((o.keep.take 20).map .bool) := fun j u hu => hlk j u (by
    rw [List.getElem?_map, List.getElem?_take] at hu
    split at hu
    · rw [List.getElem?_map]; exact hu
    · cases hu)
  have HDD : doesD D o = (removeD D (name12 o.p)).1 := by unfold doesD; rw [hKo]; rfl
  generalize hks : o.keep.take 20 = ks at *
  generalize hkz : min o.keep.length 20 = kn at *
  generalize hP : name12 o.p = p at *
  generalize hT : name12 o.to = q at *
  generalize hzw : o.what = zw at *
  generalize hzp : o.p = zp at *
  generalize hzt : o.to = zt at *
  generalize hzn : o.n = zn at *
  generalize hkL : o.keep.length = kl at *
  generalize hbL : o.b.length = bl at *
  have hdl : (o.b.take 30).length = min bl 30 := by rw [List.length_take, hbL]; omega
  generalize hdd : o.b.take 30 = d at *
  have hnb : min bl 30 ≤ 30 := by omega
  generalize hnbz : min bl 30 = nb at *
  clear hP hT hkz hkL hbL hdd hnbz hks hzw hzp hzt hzn
  obtain ⟨w3, hw3⟩ : ∃ w3, w3 = ((w.alloc (.cells [rv D.room, sv, lv, wv, rv D.power].toArray 31)).alloc (.cells [rv zw, rv zp, rv zt, rv zn, .slice A bl c, .slice A' kl c'].toArray 38)).alloc (.cells zeroD.toArray 31) := ⟨_, rfl⟩
  rw [← hw3] at b4 b5 b6 g3 s3
  have HW3 := Lib.hid hw3
  clear hw3
  go_enter Try.func8, Try.ntmps8
  go_wp2_with fail
  change Calls _ _ _ (((w.alloc (.cells [rv D.room, sv, lv, wv, rv D.power].toArray 31)).alloc (.cells [rv zw, rv zp, rv zt, rv zn, .slice A bl c, .slice A' kl c'].toArray 38)).alloc (.cells zeroD.toArray 31)) _
  rw [← HW3.out, show w.heap.size + 1 + 1 = w.heap.size + 2 from rfl]
  clear HW3
  generalize hB4 : w.heap.size = B4 at *
  generalize hB5 : B4 + 1 = B5 at *
  generalize hB6 : B4 + 2 = B6 at *
  have HB := Lib.hid (show B5 = B4 + 1 ∧ B6 = B4 + 2 ∧ w.heap.size = B4 from ⟨hB5.symm, hB6.symm, hB4⟩)
  clear hB4 hB5 hB6
  refine (NP w3).mono ?_
  rintro e w4 ⟨rfl, g4⟩
  have y4 := (b5.later g4).cell (k := 4) rfl
  go_wp2_with fail
  refine (FW w4 (Grows.trans g3 g4)).mono ?_
  rintro e w5 ⟨Ab, cb, rfl, hcb, hown, hL5, g5⟩
  have y0 := (b5.later (Grows.trans g4 g5)).cell (k := 0) rfl
  have y5 := (b5.later (Grows.trans g4 g5)).cell (k := 5) rfl
  have F5 := fresh_own hown (Nat.le_refl _)
  clear y4 hown
  go_wp2_with fail
  refine (AR w5).mono ?_
  rintro e w6 ⟨rfl, rfl⟩
  have G5 : Grows w w5 := Grows.trans g3 (Grows.trans g4 g5)
  have h34 := (Grows.trans g4 g5).size
  have b4 := b4.later (Grows.trans g4 g5)
  have b5 := b5.later (Grows.trans g4 g5)
  have b6 := b6.later (Grows.trans g4 g5)
  have x0 := b4.cell (k := 0) rfl
  have x1 := b4.cell (k := 1) rfl
  have x2 := b4.cell (k := 2) rfl
  have x3 := b4.cell (k := 3) rfl
  have x4 := b4.cell (k := 4) rfl
  have y2 := b5.cell (k := 2) rfl
  have y3 := b5.cell (k := 3) rfl
  have hs5 : B6 < w5.heap.size ∧ B4 < B6 ∧ B4 < w5.heap.size := by have := HB.out; omega
  clear y0 y5 g3 g4 g5 h34 s3 AR NP FW hkt hbc hlb
  subst hK
  have SR := remove_r D sv lv wv w5 ok p (hr.later G5) (by omega) (by omega) ⟨hlow, by omega⟩
  have SD := fun (u : World) (X' : Nat → Prop) (h : Dsk u a m X' D) (hx : ∀ k, X' k → k < u.heap.size) => remove_d a m X' D u p h hx (by omega) (by omega) (by omega)
  obtain ⟨R, hR⟩ : ∃ R, R = removeD D p := ⟨_, rfl⟩
  have HD : Hid (doesD D o = R.1) := by rw [hR]; exact HDD
  rw [← hR] at SR SD
  clear hR hKo
  obtain ⟨D', r⟩ := R
  simp only at SR SD HD
  go_wp2_with fail
  refine SR.mono ?_
  rintro e w7 ⟨sv', wv', rfl, r7, g7⟩
  obtain ⟨lv', hsv⟩ : ∃ x, x = lv := ⟨_, rfl⟩
  rw [← hsv] at r7 ⊢
  clear hsv
  have hone := dL_one r7
  unfold dL at hone
  have hbx := Has.new w7 31 zeroD
  have ga := grows_alloc w7 (.cells zeroD.toArray 31)
  go_wp2_with (refine wpList_storeT rfl 31 (.tmp 13) (.tmp 65) rfl w7.heap.size _ [rv D'.room, sv', lv', wv', rv D'.power] 5 rfl rfl hbx rfl rfl d_size hone ?_; intro w9 b9 t9)
  have h5n := g7.size
  have G59 : Grows w5 w9 := ((Turns.of_grows (S := fun k => w5.heap.size ≤ k) (Grows.trans g7 ga)).trans (t9.mono fun k _ e => by rw [e]; exact h5n)).grows (fun k h1 h2 => by omega)
  have hs9 : w7.heap.size < w9.heap.size := b9.lt
  have r9 := (((r7.cut).later ga).turned t9 (fun k hk e => by have := hk.2; omega)).mono (ok' := fun k => (ok k ∨ w5.heap.size ≤ k) ∧ k < w9.heap.size ∧ k ≠ w7.heap.size) (fun k hk => ⟨hk.1, by have := hk.2; omega, by have := hk.2; omega⟩)
  clear hbx ga t9 hr
  generalize w7.heap.size = nx at *
  have G9 := Grows.trans G5 G59
  have b5 := b5.later G59
  have b6 := b6.later G59
  have xB6 : Xn w w9 X B6 := ⟨.inr (by have := HB.out; omega), by have := HB.out; omega⟩
  have xB5 : Xn w w9 X B5 := ⟨.inr (by have := HB.out; omega), by have := HB.out; omega⟩
  have xB : Xn w w9 X nx := ⟨.inr (by have := HB.out; omega), by omega⟩
  have d9 := (hd.more (X' := Xn w w9 X) (fun k hk => hk.1)).later G9
  have r9 := r9.mono (ok' := fun k => (Xn w w9 X k ∧ (ok k ∨ w.heap.size ≤ k)) ∧ k ≠ B6) (fun k hk => by
    obtain ⟨hk | hk, h2, h3⟩ := hk <;> have := HB.out
    · exact ⟨⟨⟨.inl (hok k hk), h2⟩, .inl hk⟩, by have := hX k (hok k hk); omega⟩
    · exact ⟨⟨⟨.inr (by omega), h2⟩, .inr (by omega)⟩, by omega⟩)
  have gd := (Grows.refl w9).drew
  have hn6 : nx ≠ B6 := by have := HB.out; omega
  have hm6 : m ≤ B6 := by have := HB.out; omega
  have ldn : ∀ u, Turns (fun k => (m ≤ k ∧ ¬ Xn w w9 X k) ∨ k = B6) w9.drew u → (Instr.loadAt 31 (.pointer (some ⟨nx, 0, none⟩))).run Try.prog u = .ok (dV D' sv' lv' wv') u := fun u h => ((b9.later gd).turned h (fun e => e.elim (fun e => e.2 xB) hn6)).load Try.underlying31 rfl d_size
  have hO := Turns.refl (fun k => (m ≤ k ∧ ¬ Xn w w9 X k) ∨ k = B6) w9.drew
  refine wp_region_callw (S := fun k => (m ≤ k ∧ ¬ Xn w w9 X k) ∨ k = B6) 8 [(0, true), (1, true), (2, true), (4, true), (3, false), (5, true), (6, false), (7, true)] (by kernel_rfl) (by kernel_rfl) ?_
  repeat (first | (refine orc_load hO _ _ (by simp only [List.getElem?_cons_succ, List.getElem?_cons_zero]; rfl) (by rfl) 31 (.tmp 13) (by rfl) _ (by rfl) ldn ?_; try simp only [Act.put, List.setIfInBounds_toArray, List.set_cons_zero, List.set_cons_succ]) | (refine orc_take hO _ ?_ (by simp only [List.getElem?_cons_succ, List.getElem?_cons_zero]; rfl) (by rfl) ?_ ?_; rotate_left; (· (intro u hu0 hu; (try go_simp); (try with_reducible rfl))); try simp only [Act.put, List.setIfInBounds_toArray, List.set_cons_zero, List.set_cons_succ]))
  refine orc_move _ (by simp only [List.getElem?_cons_succ, List.getElem?_cons_zero]; rfl) (by rfl) (fun u hu K hK => ?_)
  go_simp
  have gu := Grows.trans gd hu
  refine (SD u _ (d9.later gu) (fun k hk => Nat.lt_of_lt_of_le hk.2 gu.size)).mono ?_
  rintro e v1 ⟨rfl, d1, t1⟩
  refine hK.out _ _ (t1.mono fun k _ e => .inl e) ?_
  clear hK K ldn hO
  have hO := Turns.refl (fun k => (m ≤ k ∧ ¬ Xn w w9 X k) ∨ k = B6) v1
  repeat (refine orc_take hO _ ?_ (by simp only [List.getElem?_cons_succ, List.getElem?_cons_zero]; rfl) (by rfl) ?_ ?_; rotate_left; (· (intro u hu0 hu; (try go_simp); (try with_reducible rfl))); try simp only [Act.put, List.setIfInBounds_toArray, List.set_cons_zero, List.set_cons_succ])
  refine orc_move _ (by simp only [List.getElem?_cons_succ, List.getElem?_cons_zero]; rfl) (by rfl) (fun u3 hu3 K hK => ?_)
  have b6 := (((b6.later gu).turned t1 (fun e => e.2 xB6)).later hu3)
  have r3 := ((r9.later gu).turned t1 (fun k hk e => e.2 hk.1.1)).later hu3
  have d3 := d1.later hu3
  have T3 : Turns (fun k => m ≤ k ∧ ¬ X k) w u3 := ((Turns.of_grows (Grows.trans G9 gu)).then_ t1 (fun k hk e => ⟨e.1, fun hx => e.2 ⟨.inl hx, Nat.lt_of_lt_of_le hk G9.size⟩⟩)).trans (Turns.of_grows hu3)
  have hsz := ((Turns.of_grows (S := fun k => m ≤ k ∧ ¬ Xn w w9 X k) gu).trans (t1.trans (Turns.of_grows hu3))).size
  clear d1 t1 hu3 b9 hO
  refine op_storeT 31 (.tmp 6) (.tmp 67) rfl B6 _ [rv D'.room, sv', lv', wv', rv D'.power] 5 rfl rfl b6 rfl rfl d_size hone ?_
  intro w12 b12 t12
  refine hK.out _ _ (t12.mono fun k _ e => .inr e) ?_
  clear hK K
  have hO := Turns.refl (fun k => (m ≤ k ∧ ¬ Xn w w9 X k) ∨ k = B6) w12
  repeat (refine orc_take hO _ ?_ (by simp only [List.getElem?_cons_succ, List.getElem?_cons_zero]; rfl) (by rfl) ?_ ?_; rotate_left; (· (intro u hu0 hu; (try go_simp); (try with_reducible rfl))); try simp only [Act.put, List.setIfInBounds_toArray, List.set_cons_zero, List.set_cons_succ])
  refine orc_done (fun u5 hu5 => ?_)
  simp only [List.drop_succ_cons, List.drop_zero]
  clear hO
  have b12 := b12.later hu5
  go_wp2_with fail
  refine NoPanic.normal ?_
  go_wp2_with fail
  (try simp only [Exit.inBlock, Exit.then])
  refine bodyPost_ret (res_has_two (vs := [rv D'.room, sv', lv', wv', rv D'.power]) Try.results8 _ rfl Try.underlying31 rfl d_size b12) rfl ?_
  refine ⟨sv', lv', wv', Xn w w9 X, by rw [HD.out]; simp [dV], by rw [HD.out]; exact (d3.turned t12 (fun k e h => h.2 (by rw [e]; exact xB6))).later hu5, by rw [HD.out]; exact ((r3.turned t12 (fun k hk e => hk.2 e)).mono (fun k hk => hk.1)).later hu5, fun k hk => Nat.lt_of_lt_of_le hk.2 (Nat.le_trans hsz (Nat.le_trans t12.size hu5.size)), fun k hk => ⟨.inl hk, by have := HB.out; have := hX k hk; have := G9.size; omega⟩, fun k hk => hk.1, (T3.then_ t12 (fun k hk e => by have := HB.out; omega)).trans (Turns.of_grows hu5)⟩
end Go.Proofs.Ytbcldknecdbemaa
