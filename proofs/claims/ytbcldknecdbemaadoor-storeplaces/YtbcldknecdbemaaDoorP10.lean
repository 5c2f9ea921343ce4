/-
  Contracts, joined (RkG Ord2 OrdV L12D StE StF StG StR ShaLaid).
-/
import Derived.Test.YtbcldknecdbemaaDoorP9
import Derived.Test.YtbcldknecdbemaaDoorP2
import Derived.Test.YtbcldknecdbemaaDoorP1
import Derived.Test.YtbcldknecdbemaaDoorP6
import Derived.LaidMore
import Derived.Lib.LaidTab
import Derived.ProofKit
import Derived.Stop.Joined

/-
  like: has a disk the reference's files?
-/
namespace Go.Proofs.YtbcldknecdbemaaDoor
open Go.RowKit
set_option linter.unusedVariables false
set_option maxRecDepth 20000

theorem preF_nil (S : Fls) : preF S [] = S.map (·.1) := by
  have : S.filter (fun x => prefB x.1 []) = S := List.filter_eq_self.2 (fun x _ => by simp [prefB])
  unfold preF
  rw [this]

end Go.Proofs.YtbcldknecdbemaaDoor

/-
  A region that draws its order (of no program), of which two operations that both make memory may come up in either order ahead of its tail.
-/
namespace Go.Proofs.YtbcldknecdbemaaDoor
open Go.RowKit
set_option linter.unusedVariables false
set_option maxRecDepth 20000

section
variable {P : Program} {md : Region.Mode} {ops : Array Oper} {Q : Exit → Act → World → Prop}

theorem ord_nil_eq (E : Act → World → Prop) (a : Act) (w : World) : wpOrd P ops Q E [] a w = ∀ u, Grows w u → E a u := by with_unfolding_all rfl
theorem ord_take_eq (E : Act → World → Prop) (i : Nat) (s : List (Nat × Bool)) (a : Act) (w : World) : wpOrd P ops Q E ((i, true) :: s) a w = ∃ o v, ops[i]? = some o ∧ YieldsG P ops w o v a ∧ wpOrd P ops Q E s (a.put o.dst v) w := by with_unfolding_all rfl
theorem ord_move_eq (E : Act → World → Prop) (i : Nat) (s : List (Nat × Bool)) (a : Act) (w : World) : wpOrd P ops Q E ((i, false) :: s) a w = ∀ u, Grows w u → wpOp P ops Q i (fun a' u' => Grows u u' ∧ wpOrd P ops Q E s a' u') a u := by with_unfolding_all rfl
/-- The two, each ahead of the other. -/
def bothB (md : Region.Mode) (ops : Array Oper) (n g i j : Nat) (listed : Array Bool) : Bool :=
  decide (i < n) && decide (j < n) && decide (i ≠ j) && (Region.ready md ops listed == [i, j]) && (Region.ready md ops (listed.setIfInBounds i true) == [j]) && (Region.ready md ops (listed.setIfInBounds j true) == [i]) && Region.seqB md ops g n ((listed.setIfInBounds i true).setIfInBounds j true)
def ordB2 (md : Region.Mode) (ops : Array Oper) (n g i j : Nat) : List (Nat × Bool) → Array Bool → Bool
  | [], listed => bothB md ops n g i j listed
  | (k, true) :: s, listed => decide (k < n) && (Region.ready md ops listed).contains k && Region.free md ops listed k && ordB2 md ops n g i j s (listed.setIfInBounds k true)
  | (k, false) :: s, listed => decide (k < n) && (Region.ready md ops listed == [k]) && ordB2 md ops n g i j s (listed.setIfInBounds k true)
/-- One, then the other. -/
def wpThen (P : Program) (ops : Array Oper) (Q : Exit → Act → World → Prop) (E : Act → World → Prop) (i j : Nat) (a : Act) (u : World) : Prop :=
  wpOp P ops Q i (fun a' u' => Grows u u' ∧ ∀ u2, Grows u' u2 → wpOp P ops Q j (fun a2 u3 => Grows u2 u3 ∧ ∀ u4, Grows u3 u4 → E a2 u4) a' u2) a u

theorem wpAnyU_then {n g i j : Nat} {E : Act → World → Prop} {listed : Array Bool} {a : Act} {w : World} (hi : i < n) (hj : j < n) (h1 : Region.ready md ops (listed.setIfInBounds i true) = [j]) (h2 : Region.seqB md ops g n ((listed.setIfInBounds i true).setIfInBounds j true) = true)
    (h : ∀ u, Grows w u → wpThen P ops Q E i j a u) : ∀ u, Grows w u → wpOp P ops Q i (fun a' u' => Grows u u' ∧ wpAnyU P md ops Q n (fun listed' a' w' => Region.seqB md ops g n listed' = true ∧ ∀ u, Grows w' u → E a' u) 1 (listed.setIfInBounds i true) a' u') a u := fun u hu => by
  refine wpOp_mono (fun a' u' h3 => ⟨h3.1, ?_, fun k hk => ?_⟩) (h u hu)
  · rw [h1]; simp
  · rw [h1] at hk
    obtain rfl : k = j := by simpa using hk
    exact ⟨hj, fun u2 hu2 => wpOp_mono (fun a2 u3 h4 => ⟨h4.1, h2, h4.2⟩) (h3.2 u2 hu2)⟩

theorem wpAnyU_of_ord2 {n g i j : Nat} {E : Act → World → Prop} (hs : Region.noSelect ops = true) (hQ : ∀ c a d v w, Q (.panic c) (Act.put a d v) w → Q (.panic c) a w)
    (hwait : ∀ i, i < n → ∀ listed, HeadInv md ops n listed → listed.getD i true = false → ∀ j ∈ Region.ready md ops listed, j < n) :
    ∀ (s : List (Nat × Bool)) (listed : Array Bool) (a : Act) (w : World), HeadInv md ops n listed → ordB2 md ops n g i j s listed = true → wpOrd P ops Q (fun a u => wpThen P ops Q E i j a u ∧ wpThen P ops Q E j i a u) s a w →
      wpAnyU P md ops Q n (fun listed' a' w' => Region.seqB md ops g n listed' = true ∧ ∀ u, Grows w' u → E a' u) (s.length + 2) listed a w
  | [], listed, a, w, inv, hB, h => by
    simp only [ordB2, bothB, Bool.and_eq_true, decide_eq_true_eq, beq_iff_eq] at hB
    obtain ⟨⟨⟨⟨⟨⟨hin, hjn⟩, hne⟩, hr⟩, hri⟩, hrj⟩, hsq⟩ := hB
    rw [ord_nil_eq] at h
    refine ⟨by rw [hr]; simp, fun k hk => ?_⟩
    rw [hr] at hk
    rcases List.mem_cons.1 hk with rfl | hk
    · exact ⟨hin, wpAnyU_then hin hjn hri hsq (fun u hu => (h u hu).1)⟩
    · obtain rfl : k = j := by simpa using hk
      exact ⟨hjn, wpAnyU_then hjn hin hrj (by rw [Array.setIfInBounds_comm _ _ hne] at hsq; exact hsq) (fun u hu => (h u hu).2)⟩
  | (k, true) :: s, listed, a, w, inv, hB, h => by
    simp only [ordB2, Bool.and_eq_true, decide_eq_true_eq] at hB
    obtain ⟨⟨⟨hin, hr⟩, hf⟩, hB'⟩ := hB
    rw [ord_take_eq] at h
    obtain ⟨o, v, ho, hy, h'⟩ := h
    have hr' : k ∈ Region.ready md ops listed := by simpa using hr
    exact wpAnyU_first ho (Region.noSelect_spec hs) (fun c a w => hQ c a o.dst v w) hin (hwait k hin) (fun _ _ _ _ hg hl => ⟨hl.1, fun u hu => hl.2 u (Grows.trans hg hu)⟩) (fun _ _ _ hl => seqB_ready hl.1)
      (s.length + 2) listed a w inv (Region.free_spec ho hf) hr' hy (wpAnyU_of_ord2 hs hQ hwait s _ _ w (inv.set hr' hin) hB' h')
  | (k, false) :: s, listed, a, w, inv, hB, h => by
    simp only [ordB2, Bool.and_eq_true, decide_eq_true_eq] at hB
    obtain ⟨⟨hin, hr⟩, hB'⟩ := hB
    rw [ord_move_eq] at h
    have hr' : Region.ready md ops listed = [k] := by simpa using hr
    have hm : k ∈ Region.ready md ops listed := by rw [hr']; simp
    refine ⟨fun h0 => (by rw [hr'] at h0; cases h0), fun j hj => ?_⟩
    rw [hr'] at hj
    have hji : j = k := by simpa using hj
    subst hji
    exact ⟨hin, fun u hu => wpOp_mono (fun a' w' h' => ⟨h'.1, wpAnyU_of_ord2 hs hQ hwait s _ a' w' (inv.set hm hin) hB' h'.2⟩) (h u hu)⟩

def ordWholeB2 (ops : Array Oper) (n i j : Nat) (s : List (Nat × Bool)) : Bool :=
  Region.noSelect ops && decide (n ≤ ops.size) && (decide (n = ops.size) || (Region.sinkB .any ops n && Region.chainB .any ops n)) && (s.length + 2 == n) && ordB2 .any ops n (ops.size - n) i j s (Array.replicate ops.size false)

/-- THE RULE. -/
theorem wp_region_ord2 {id : Nat} {a : Act} {w : World} {l : List Oper} (n i j : Nat) (s : List (Nat × Bool)) (hm : P.follows .mixedOrders = true) (hB : ordWholeB2 l.toArray n i j s = true)
    (h : wpOrd P l.toArray (NoPanic Q) (fun a u => wpThen P l.toArray (NoPanic Q) (fun a' u => wpList P l.toArray (NoPanic Q) (l.drop n) a' u) i j a u ∧ wpThen P l.toArray (NoPanic Q) (fun a' u => wpList P l.toArray (NoPanic Q) (l.drop n) a' u) j i a u) s a w.drew) : (Code.region id l.toArray true).wp P Q a w := by
  simp only [ordWholeB2, Bool.and_eq_true, decide_eq_true_eq, Bool.or_eq_true, beq_iff_eq] at hB
  obtain ⟨⟨⟨⟨hsel, hn⟩, hc⟩, hl⟩, hord⟩ := hB
  have hdl : (l.drop n).length = l.toArray.size - n := by simp
  have inv0 : HeadInv .any l.toArray n (Array.replicate l.toArray.size false) :=
    ⟨by simp, fun j oj _ hl => (by rw [getD_replicate_false] at hl; cases hl), fun t _ ht => getD_in (by simpa using ht) (getD_replicate_false _ _)⟩
  have hwait : ∀ i, i < n → ∀ listed, HeadInv .any l.toArray n listed → listed.getD i true = false → ∀ j ∈ Region.ready .any l.toArray listed, j < n := fun i hi listed inv hun j hj => by
    rcases hc with hc | ⟨hs, hch⟩
    · obtain ⟨_, oj, hoj, _⟩ := mem_ready.1 hj
      have := (Array.getElem?_eq_some_iff.1 hoj).1
      omega
    · rcases Nat.lt_or_ge j n with h | h
      · exact h
      · have hjs : j < l.toArray.size := by
          obtain ⟨_, oj, hoj, _⟩ := mem_ready.1 hj
          exact (Array.getElem?_eq_some_iff.1 hoj).1
        exact absurd hj (tail_waits hs hch (by omega) inv _ i rfl hi hun j h)
  refine wp_region_noPanic (wp_region_any hm ?_)
  have H := wpAnyU_of_ord2 (md := .any) (g := l.toArray.size - n) (Q := NoPanic Q) hsel (fun c a d v w h => h) hwait s _ a w.drew inv0 hord h
  have := wpAny_of_U (Q := NoPanic Q) (g := l.toArray.size - n) (fun listed a' w' hL => by
    have := wpAny_of_seq (md := .any) (Q' := NoPanic Q) (l.drop n) n listed a' w' (fun j => by simp [List.getElem?_drop]) (by rw [hdl]; exact hL.1) (hL.2 w' (Grows.refl _))
    rwa [hdl] at this) _ _ _ _ H
  rw [hl, show n + (l.toArray.size - n) = l.toArray.size by omega] at this
  exact this
/-- One of the two. -/
theorem op_move {l : List Oper} {i : Nat} {a : Act} {u : World} {R : Act → World → Prop} (o : Oper) (ho : l[i]? = some o) (hw : Region.wanted o (yielded l.toArray a.tmps) = true)
    (h : ∀ K : Act → World → Prop, Shut (∀ a' u', R a' u' → K a' u') → Oper.wp P o a u K Q) : wpOp P l.toArray Q i R a u := by
  refine wpOp_step (by simpa using ho) fun K hK => ?_
  rw [if_pos hw]
  exact h K fun a' w' hr => hK a' w' hr
end
end Go.Proofs.YtbcldknecdbemaaDoor

/-
  A region that draws its order (of no program), walked by a tree of orders to its very end: readers and calls that yield one value as soon as they may come up (while one is not yet done, no store comes up); operations that read no memory as soon as they may come up, stores or not; makers of memory and stores where nothing else may come up, or, of two of them, both ways.
-/
namespace Go.Proofs.YtbcldknecdbemaaDoor
open Go.RowKit
set_option linter.unusedVariables false
set_option maxRecDepth 20000

inductive OV where
  | done
  | take (i : Nat) (t : OV)
  | pure (i : Nat) (t : OV)
  | move (i : Nat) (t : OV)
  | both (i j : Nat) (t1 t2 : OV)
section
variable {P : Program} {md : Region.Mode} {ops : Array Oper} {Q : Exit → Act → World → Prop} {n : Nat}

/-- Whatever order is picked; behind every operation ahead of number n the world has but grown. -/
def wpV (P : Program) (md : Region.Mode) (ops : Array Oper) (Q : Exit → Act → World → Prop) (n : Nat) : Nat → Array Bool → Act → World → Prop
  | 0, listed, a, w => Region.ready md ops listed = [] ∧ ∀ u, Grows w u → Q .normal a u
  | f + 1, listed, a, w => Region.ready md ops listed ≠ [] ∧ ∀ i ∈ Region.ready md ops listed, ∀ u, Grows w u → wpOp P ops Q i (fun a' u' => (i < n → Grows u u') ∧ wpV P md ops Q n f (listed.setIfInBounds i true) a' u') a u
theorem wpV_later : ∀ (f : Nat) (listed : Array Bool) (a : Act) (w w' : World), Grows w w' → wpV P md ops Q n f listed a w → wpV P md ops Q n f listed a w'
  | 0, _, _, _, _, hg, h => ⟨h.1, fun u hu => h.2 u (Grows.trans hg hu)⟩
  | _ + 1, _, _, _, _, hg, h => ⟨h.1, fun i hi u hu => h.2 i hi u (Grows.trans hg hu)⟩
theorem wpAny_of_V : ∀ (f : Nat) (listed : Array Bool) (a : Act) (w : World), wpV P md ops Q n f listed a w → wpAny P md ops Q f listed a w
  | 0, _, _, w, h => ⟨h.1, h.2 w (Grows.refl w)⟩
  | f + 1, _, _, w, h => ⟨fun h0 => absurd h0 h.1, fun i hi => wpOp_mono (fun a' w' h' => wpAny_of_V f _ a' w' h'.2) (h.2 i hi w (Grows.refl w))⟩

theorem wpV_first {i : Nat} {oi : Oper} {v : Value} (hi : ops[i]? = some oi) (hsel : ∀ (j : Nat) (o : Oper) cs b, ops[j]? = some o → o.op ≠ .select cs b)
    (hQ : ∀ c a w, Q (.panic c) (a.put oi.dst v) w → Q (.panic c) a w) (hwait : ∀ listed : Array Bool, listed.getD i true = false → ∀ j ∈ Region.ready md ops listed, j < n) :
    ∀ (f : Nat) (listed : Array Bool) (a : Act) (w : World),
      (∀ j oj, ops[j]? = some oj → j ≠ i → listed.getD j true = false → (∀ e ∈ oj.after, Region.binds md e = true → e.on ≠ i) → oi.apart ops oj = true) →
      i ∈ Region.ready md ops listed → YieldsG P ops w oi v a →
      wpV P md ops Q n f (listed.setIfInBounds i true) (a.put oi.dst v) w → wpV P md ops Q n (f + 1) listed a w := by
  intro f
  induction f with
  | zero =>
    intro listed a w _ hr hy H
    refine ⟨fun h => (by rw [h] at hr; cases hr), fun j hj u hu => ?_⟩
    by_cases hji : j = i
    · subst hji
      exact hy.wpOp hi hu fun u' hu' => ⟨fun _ => hu', wpV_later 0 _ _ _ _ (Grows.trans hu hu') H⟩
    · have h1 := ready_mono hj hji
      rw [H.1] at h1
      cases h1
  | succ f ih =>
    intro listed a w hfree hr hy H
    have hun := (mem_ready.1 hr).1
    refine ⟨fun h => (by rw [h] at hr; cases hr), fun j hj u hu => ?_⟩
    by_cases hji : j = i
    · subst hji
      exact hy.wpOp hi hu fun u' hu' => ⟨fun _ => hu', wpV_later _ _ _ _ _ (Grows.trans hu hu') H⟩
    · have h1 := H.2 j (ready_mono hj hji) u hu
      obtain ⟨hjun, oj, hoj, hall⟩ := mem_ready.1 hj
      have hnot : ∀ e ∈ oj.after, Region.binds md e = true → e.on ≠ i := fun e he hb heq => by
        have h1 := hall e he hb
        rw [heq, getD_both hun] at h1
        cases h1
      have h2 := wpOp_beside hoj (hfree j oj hoj hji hjun hnot) (fun cs b => hsel i oi cs b hi) (fun cs b => hsel j oj cs b hoj) hQ hy h1
      have hfree' : ∀ k ok, ops[k]? = some ok → k ≠ i → (listed.setIfInBounds j true).getD k true = false →
          (∀ e ∈ ok.after, Region.binds md e = true → e.on ≠ i) → oi.apart ops ok = true := fun k ok hk hki hun' hno => by
        refine hfree k ok hk hki ?_ hno
        by_cases hjk : j = k
        · subst hjk; exact hjun
        · rwa [getD_set_ne true hjk] at hun'
      refine wpOp_mono (fun a' u' h3 => ?_) h2
      have hg := h3.2.1 (hwait listed hun j hj)
      refine ⟨fun _ => hg, ih (listed.setIfInBounds j true) a' u' hfree' (ready_mono hr (Ne.symm hji)) (h3.1.later (Grows.trans hu hg)) ?_⟩
      rw [Array.setIfInBounds_comm _ _ hji]
      exact h3.2.2
/-- An operation that reads no memory, beside any other. -/
theorem wpOp_beside_pure {j : Nat} {oi oj : Oper} {v : Value} (hj : ops[j]? = some oj) (hap : oi.apart ops oj = true)
    (hsi : ∀ cs b, oi.op ≠ .select cs b) (hsj : ∀ cs b, oj.op ≠ .select cs b)
    (hQ : ∀ c a w, Q (.panic c) (a.put oi.dst v) w → Q (.panic c) a w) {K : Act → World → Prop} {a : Act} {u : World}
    (hy : ∀ w, YieldsG P ops w oi v a) (h : wpOp P ops Q j K (a.put oi.dst v) u) :
    wpOp P ops Q j (fun a' u' => (∀ w, YieldsG P ops w oi v a') ∧ K (a'.put oi.dst v) u') a u := by
  have h1 := wpOp_putIf (S := fun _ => False) hj hap hsi hsj hQ ((hy u).imp (fun ⟨h1, _⟩ => ⟨h1, fun _ h => h.elim⟩) id) h
  obtain ⟨_, _, h3⟩ := Oper.apart_spec hap
  refine wpOp_mono (fun a' u' h2 => ⟨h2.1, h2.2.2⟩) (wpOp_kept (Y := fun a' => ∀ w, YieldsG P ops w oi v a') hj (fun ds x w => ?_) h1)
  exact YieldsG.same (a := { a with defers := ds }) ((hy w).same rfl rfl) (execOp_put oi hsi _ oj.dst x h3) (wanted_put oi _ oj.dst x h3)
theorem wpV_pure {i : Nat} {oi : Oper} {v : Value} (hi : ops[i]? = some oi) (hsel : ∀ (j : Nat) (o : Oper) cs b, ops[j]? = some o → o.op ≠ .select cs b)
    (hQ : ∀ c a w, Q (.panic c) (a.put oi.dst v) w → Q (.panic c) a w) :
    ∀ (f : Nat) (listed : Array Bool) (a : Act) (w : World),
      (∀ j oj, ops[j]? = some oj → j ≠ i → listed.getD j true = false → (∀ e ∈ oj.after, Region.binds md e = true → e.on ≠ i) → oi.apart ops oj = true) →
      i ∈ Region.ready md ops listed → (∀ w, YieldsG P ops w oi v a) →
      wpV P md ops Q n f (listed.setIfInBounds i true) (a.put oi.dst v) w → wpV P md ops Q n (f + 1) listed a w := by
  intro f
  induction f with
  | zero =>
    intro listed a w _ hr hy H
    refine ⟨fun h => (by rw [h] at hr; cases hr), fun j hj u hu => ?_⟩
    by_cases hji : j = i
    · subst hji
      exact (hy w).wpOp hi hu fun u' hu' => ⟨fun _ => hu', wpV_later 0 _ _ _ _ (Grows.trans hu hu') H⟩
    · have h1 := ready_mono hj hji
      rw [H.1] at h1
      cases h1
  | succ f ih =>
    intro listed a w hfree hr hy H
    have hun := (mem_ready.1 hr).1
    refine ⟨fun h => (by rw [h] at hr; cases hr), fun j hj u hu => ?_⟩
    by_cases hji : j = i
    · subst hji
      exact (hy w).wpOp hi hu fun u' hu' => ⟨fun _ => hu', wpV_later _ _ _ _ _ (Grows.trans hu hu') H⟩
    · have h1 := H.2 j (ready_mono hj hji) u hu
      obtain ⟨hjun, oj, hoj, hall⟩ := mem_ready.1 hj
      have hnot : ∀ e ∈ oj.after, Region.binds md e = true → e.on ≠ i := fun e he hb heq => by
        have h1 := hall e he hb
        rw [heq, getD_both hun] at h1
        cases h1
      have h2 := wpOp_beside_pure hoj (hfree j oj hoj hji hjun hnot) (fun cs b => hsel i oi cs b hi) (fun cs b => hsel j oj cs b hoj) hQ hy h1
      have hfree' : ∀ k ok, ops[k]? = some ok → k ≠ i → (listed.setIfInBounds j true).getD k true = false →
          (∀ e ∈ ok.after, Region.binds md e = true → e.on ≠ i) → oi.apart ops ok = true := fun k ok hk hki hun' hno => by
        refine hfree k ok hk hki ?_ hno
        by_cases hjk : j = k
        · subst hjk; exact hjun
        · rwa [getD_set_ne true hjk] at hun'
      refine wpOp_mono (fun a' u' h3 => ⟨h3.2.1, ih (listed.setIfInBounds j true) a' u' hfree' (ready_mono hr (Ne.symm hji)) h3.1 ?_⟩) h2
      rw [Array.setIfInBounds_comm _ _ hji]
      exact h3.2.2

/-- Every operation from number n on waits for i. -/
def waitB (md : Region.Mode) (ops : Array Oper) (n i : Nat) : Bool := (List.range ops.size).all fun t => decide (t < n) || (match ops[t]? with | some o => o.after.any (fun e => Region.binds md e && e.on == i) | none => true)
theorem waitB_spec {i : Nat} (h : waitB md ops n i = true) (listed : Array Bool) (hun : listed.getD i true = false) : ∀ j ∈ Region.ready md ops listed, j < n := fun j hj => by
  obtain ⟨_, oj, hoj, hall⟩ := mem_ready.1 hj
  have hlt := (Array.getElem?_eq_some_iff.1 hoj).1
  have h1 := (List.all_eq_true.1 h) j (List.mem_range.2 hlt)
  rw [hoj] at h1
  simp only [Bool.or_eq_true, decide_eq_true_eq] at h1
  rcases h1 with h1 | h1
  · exact h1
  · obtain ⟨k, hk, he⟩ := Array.any_eq_true.1 h1
    simp only [Bool.and_eq_true, beq_iff_eq] at he
    have h2 := hall _ (Array.getElem_mem hk) he.1
    rw [he.2, getD_both hun] at h2
    cases h2
def ovB (md : Region.Mode) (ops : Array Oper) (n : Nat) : OV → Nat → Array Bool → Bool
  | .done, f, listed => decide (f = 0) && (Region.ready md ops listed).isEmpty
  | .take i t, f, listed => decide (0 < f) && (Region.ready md ops listed).contains i && Region.free md ops listed i && waitB md ops n i && ovB md ops n t (f - 1) (listed.setIfInBounds i true)
  | .pure i t, f, listed => decide (0 < f) && (Region.ready md ops listed).contains i && Region.free md ops listed i && ovB md ops n t (f - 1) (listed.setIfInBounds i true)
  | .move i t, f, listed => decide (0 < f) && (Region.ready md ops listed == [i]) && ovB md ops n t (f - 1) (listed.setIfInBounds i true)
  | .both i j t1 t2, f, listed => decide (0 < f) && (Region.ready md ops listed == [i, j]) && ovB md ops n t1 (f - 1) (listed.setIfInBounds i true) && ovB md ops n t2 (f - 1) (listed.setIfInBounds j true)
def wpOV (P : Program) (ops : Array Oper) (Q : Exit → Act → World → Prop) (n : Nat) : OV → Act → World → Prop
  | .done, a, w => ∀ u, Grows w u → Q .normal a u
  | .take i t, a, w => ∃ o v, ops[i]? = some o ∧ YieldsG P ops w o v a ∧ wpOV P ops Q n t (a.put o.dst v) w
  | .pure i t, a, w => ∃ o v, ops[i]? = some o ∧ (∀ w', YieldsG P ops w' o v a) ∧ wpOV P ops Q n t (a.put o.dst v) w
  | .move i t, a, w => ∀ u, Grows w u → wpOp P ops Q i (fun a' u' => (i < n → Grows u u') ∧ wpOV P ops Q n t a' u') a u
  | .both i j t1 t2, a, w => (∀ u, Grows w u → wpOp P ops Q i (fun a' u' => (i < n → Grows u u') ∧ wpOV P ops Q n t1 a' u') a u) ∧ (∀ u, Grows w u → wpOp P ops Q j (fun a' u' => (j < n → Grows u u') ∧ wpOV P ops Q n t2 a' u') a u)

theorem wpV_of_OV (hs : Region.noSelect ops = true) (hQ : ∀ c a d v w, Q (.panic c) (Act.put a d v) w → Q (.panic c) a w) :
    ∀ (t : OV) (f : Nat) (listed : Array Bool) (a : Act) (w : World), ovB md ops n t f listed = true → wpOV P ops Q n t a w → wpV P md ops Q n f listed a w := by
  intro t
  induction t with
  | done =>
    intro f listed a w hB h
    simp only [ovB, Bool.and_eq_true, decide_eq_true_eq] at hB
    obtain ⟨rfl, hB⟩ := hB
    exact ⟨by simpa using hB, h⟩
  | take i t ih =>
    intro f listed a w hB h
    simp only [ovB, Bool.and_eq_true, decide_eq_true_eq] at hB
    obtain ⟨⟨⟨⟨h0, hr⟩, hf⟩, hw⟩, hB'⟩ := hB
    obtain ⟨o, v, ho, hy, h'⟩ := h
    obtain ⟨f, rfl⟩ : ∃ k, f = k + 1 := ⟨f - 1, by omega⟩
    have hr' : i ∈ Region.ready md ops listed := by simpa using hr
    exact wpV_first ho (Region.noSelect_spec hs) (fun c a w => hQ c a o.dst v w) (waitB_spec hw) f listed a w (Region.free_spec ho hf) hr' hy (ih _ _ _ w hB' h')
  | pure i t ih =>
    intro f listed a w hB h
    simp only [ovB, Bool.and_eq_true, decide_eq_true_eq] at hB
    obtain ⟨⟨⟨h0, hr⟩, hf⟩, hB'⟩ := hB
    obtain ⟨o, v, ho, hy, h'⟩ := h
    obtain ⟨f, rfl⟩ : ∃ k, f = k + 1 := ⟨f - 1, by omega⟩
    have hr' : i ∈ Region.ready md ops listed := by simpa using hr
    exact wpV_pure ho (Region.noSelect_spec hs) (fun c a w => hQ c a o.dst v w) f listed a w (Region.free_spec ho hf) hr' hy (ih _ _ _ w hB' h')
  | move i t ih =>
    intro f listed a w hB h
    simp only [ovB, Bool.and_eq_true, decide_eq_true_eq] at hB
    obtain ⟨⟨h0, hr⟩, hB'⟩ := hB
    obtain ⟨f, rfl⟩ : ∃ k, f = k + 1 := ⟨f - 1, by omega⟩
    have hr' : Region.ready md ops listed = [i] := by simpa using hr
    refine ⟨fun h0 => (by rw [hr'] at h0; cases h0), fun j hj => ?_⟩
    rw [hr'] at hj
    obtain rfl : j = i := by simpa using hj
    exact fun u hu => wpOp_mono (fun a' w' h' => ⟨h'.1, ih _ _ a' w' hB' h'.2⟩) (h u hu)
  | both i j t1 t2 ih1 ih2 =>
    intro f listed a w hB h
    simp only [ovB, Bool.and_eq_true, decide_eq_true_eq] at hB
    obtain ⟨⟨⟨h0, hr⟩, hB1⟩, hB2⟩ := hB
    obtain ⟨f, rfl⟩ : ∃ k, f = k + 1 := ⟨f - 1, by omega⟩
    have hr' : Region.ready md ops listed = [i, j] := by simpa using hr
    refine ⟨fun h0 => (by rw [hr'] at h0; cases h0), fun k hk => ?_⟩
    rw [hr'] at hk
    rcases List.mem_cons.1 hk with rfl | hk
    · exact fun u hu => wpOp_mono (fun a' w' h' => ⟨h'.1, ih1 _ _ a' w' hB1 h'.2⟩) (h.1 u hu)
    · obtain rfl : k = j := by simpa using hk
      exact fun u hu => wpOp_mono (fun a' w' h' => ⟨h'.1, ih2 _ _ a' w' hB2 h'.2⟩) (h.2 u hu)

/-- THE RULE. -/
theorem wp_region_ov {id : Nat} {a : Act} {w : World} {l : List Oper} (n : Nat) (t : OV) (hm : P.follows .mixedOrders = true) (hB : (Region.noSelect l.toArray && ovB .any l.toArray n t l.toArray.size (Array.replicate l.toArray.size false)) = true)
    (h : wpOV P l.toArray (NoPanic Q) n t a w.drew) : (Code.region id l.toArray true).wp P Q a w := by
  simp only [Bool.and_eq_true] at hB
  refine wp_region_noPanic (wp_region_any hm ?_)
  exact wpAny_of_V _ _ _ _ (wpV_of_OV (md := .any) (Q := NoPanic Q) hB.1 (fun c a d v w h => h) t _ _ a w.drew hB.2 h)
/-- A row of readers and makers, walked as Ord walks it, then the tree's. -/
def OV.ofS : List (Nat × Bool) → OV → OV
  | [], t => t
  | (i, true) :: s, t => .take i (OV.ofS s t)
  | (i, false) :: s, t => .move i (OV.ofS s t)
theorem ov_of_ord (t : OV) : ∀ (s : List (Nat × Bool)) (a : Act) (w : World), wpOrd P ops Q (fun a' u => wpOV P ops Q n t a' u) s a w → wpOV P ops Q n (OV.ofS s t) a w
  | [], a, w, h => by rw [ord_nil_eq] at h; exact h w (Grows.refl w)
  | (i, true) :: s, a, w, h => by
    rw [ord_take_eq] at h
    obtain ⟨o, v, ho, hy, h'⟩ := h
    exact ⟨o, v, ho, hy, ov_of_ord t s _ w h'⟩
  | (i, false) :: s, a, w, h => by
    rw [ord_move_eq] at h
    exact fun u hu => wpOp_mono (fun a' u' h' => ⟨fun _ => h'.1, ov_of_ord t s a' u' h'.2⟩) (h u hu)
theorem ov_both {i j : Nat} {t1 t2 : OV} {a : Act} {w : World} (h1 : ∀ u, Grows w u → wpOp P ops Q i (fun a' u' => (i < n → Grows u u') ∧ wpOV P ops Q n t1 a' u') a u)
    (h2 : ∀ u, Grows w u → wpOp P ops Q j (fun a' u' => (j < n → Grows u u') ∧ wpOV P ops Q n t2 a' u') a u) : wpOV P ops Q n (.both i j t1 t2) a w := ⟨h1, h2⟩
theorem ov_move {i : Nat} {t : OV} {a : Act} {w : World} (h : ∀ u, Grows w u → wpOp P ops Q i (fun a' u' => (i < n → Grows u u') ∧ wpOV P ops Q n t a' u') a u) : wpOV P ops Q n (.move i t) a w := h
theorem ov_pure {l : List Oper} {i : Nat} {t : OV} {a : Act} {w : World} (o : Oper) (v : Value) (ho : l[i]? = some o) (hw : Region.wanted o (yielded l.toArray a.tmps) = true)
    (hy : ∀ u, (execOp a.eval o).run P u = .ok (.value v) u) (h : wpOV P l.toArray Q n t (a.put o.dst v) w) : wpOV P l.toArray Q n (.pure i t) a w :=
  ⟨o, v, by simpa using ho, fun w' => .inl ⟨hw, fun u hu => by unfold Oper.quietAt; rw [hy u]; exact ⟨rfl, rfl⟩⟩, h⟩
theorem ov_done {a : Act} {w : World} (h : ∀ u, Grows w u → Q .normal a u) : wpOV P ops Q n .done a w := h
/-- One operation that changes the world. -/
theorem ov_op {l : List Oper} {i : Nat} {a : Act} {u : World} {R : Act → World → Prop} (o : Oper) (ho : l[i]? = some o) (hw : Region.wanted o (yielded l.toArray a.tmps) = true)
    (h : ∀ K : Act → World → Prop, Shut (∀ a' u', R a' u' → K a' u') → Oper.wp P o a u K Q) : wpOp P l.toArray Q i R a u := by
  refine wpOp_step (by simpa using ho) fun K hK => ?_
  rw [if_pos hw]
  exact h K fun a' w' hr => hK a' w' hr
end
end Go.Proofs.YtbcldknecdbemaaDoor

/-
  The walk of DiskNames.
-/
namespace Go.Proofs.YtbcldknecdbemaaDoor
open Go.RowKit
set_option linter.unusedVariables false
set_option maxRecDepth 20000

/-- The disk behind j writes of one byte. -/
structure Nm (j : Nat) (D : Dk) : Prop where
  pow : D.power = -1
  room : D.room = 100
  weight : D.weight ≤ j
  waits : D.waits.length ≤ j
  seen : D.seen.length ≤ j
theorem nm_zero : Nm 0 (newD 100) := ⟨rfl, rfl, by simp [newD, Dk.weight, fUsed, dataSum], by simp [newD], by simp [newD]⟩
theorem put_len (S : Fls) (p b : Byts) : (fPut S p b).length ≤ S.length + 1 := by
  have h1 := (fPut_perm S (p := p) (b := b)).length_eq
  have h2 := (fDel_sub S p).length_le
  rw [h1]; simp; omega
theorem nm_write {j : Nat} {D : Dk} (h : Nm j D) (p : Byts) : Nm (j + 1) (writeD D p [49]).1 := by
  have hw := weight_write D p [49]
  have ha := waits_write D p [49]
  have h1 := h.weight
  have h2 := h.waits
  have h3 := h.seen
  simp only [List.length_cons, List.length_nil] at hw
  refine ⟨?_, by rw [room_write]; exact h.room, by omega, by omega, ?_⟩
  · unfold writeD
    split
    · exact h.pow
    · split
      · exact h.pow
      · split
        · exact h.pow
        · show (if 0 < D.power then D.power - 1 else D.power) = _
          rw [h.pow]; rfl
  · unfold writeD
    split
    · show D.seen.length ≤ _; omega
    · split
      · show D.seen.length ≤ _; omega
      · split
        · show D.seen.length ≤ _; omega
        · show (fPut D.seen p [49]).length ≤ _
          have := put_len D.seen p [49]
          omega

/-- Both disks at hand: the program's, the reference's in its box, four texts. -/
structure StN (w : World) (a m gt B : Nat) (ts : List Value) (sv lv wv : Value) (D : Dk) (X : Nat → Prop) : Prop where
  dsk : Dsk w a m X D
  ref : RDk w (fun k => X k ∧ k ≠ B) sv lv wv D
  xs : ∀ k, X k → k < w.heap.size
  xb : X B
  box : Has w B [rv D.room, sv, lv, wv, rv D.power]
  txt : Has w gt ts
theorem StN.later {w w' : World} {a m gt B : Nat} {ts : List Value} {sv lv wv : Value} {D : Dk} {X : Nat → Prop} (h : StN w a m gt B ts sv lv wv D X) (hg : Grows w w') : StN w' a m gt B ts sv lv wv D X :=
  ⟨h.dsk.later hg, h.ref.later hg, fun k hk => Nat.lt_of_lt_of_le (h.xs k hk) hg.size, h.xb, h.box.later hg, h.txt.later hg⟩
theorem op_storeT {P : Program} {w : World} {op : Oper} {a : Act} {Q : Exit → Act → World → Prop} {K : Act → World → Prop} (ty : TypeId) (x y : Operand) (ho : op.op = .store ty x y)
    (b : Nat) (vs vs' : List Value) (n : Nat) (hx : a.eval x = .pointer (some ⟨b, 0, none⟩)) (hy : a.eval y = .agg vs'.toArray) (hb : Has w b vs) (hl : vs.length = n) (hl' : vs'.length = n) (hi : (P.info? ty).map (·.size) = some n)
    (h1 : ∀ v ∈ vs', v.oneCell' = true) (h : ∀ w', Has w' b vs' → Turns (fun k => k = b) w w' → K (a.put op.dst undef) w') : Oper.wp P op a w K Q := by
  have hz : vs'.toArray.size = n := by simp [hl']
  refine wp_store_mid ty x y ho b 0 vs'.toArray hx hy (by rw [hz, ← hl]; exact hb.there) (by rw [hz]; exact hi) (all_oneCell_toArray h1) ?_
  exact h _ (hb.put_ (by rw [hl, hl'])) (turns_cells b _ 0 w)
def Xn (w w' : World) (X : Nat → Prop) (k : Nat) : Prop := (X k ∨ w.heap.size ≤ k) ∧ k < w'.heap.size
/-- The reference has gone on. -/
theorem StN.gone {w w' : World} {a m gt B : Nat} {ts : List Value} {sv lv wv sv' lv' wv' : Value} {D D' : Dk} {X : Nat → Prop} (h : StN w a m gt B ts sv lv wv D X) (ht : Turns (fun k => k = B) w w') (hr : RDk w' (fun k => (X k ∨ w.heap.size ≤ k) ∧ k ≠ B) sv' lv' wv' D') :
    Dsk w' a m (Xn w w' X) D ∧ RDk w' (fun k => Xn w w' X k ∧ k ≠ B) sv' lv' wv' D' ∧ Xn w w' X B :=
  have hB : Xn w w' X B := ⟨.inl h.xb, Nat.lt_of_lt_of_le (h.xs B h.xb) ht.size⟩
  ⟨(h.dsk.more (X' := Xn w w' X) (fun k hk => hk.1)).turned ht (fun k e hk => hk.2 (by rw [e]; exact hB)), hr.cut.mono (fun k hk => ⟨⟨hk.1.1, hk.2⟩, hk.1.2⟩), hB⟩
theorem preF_snoc {S : Fls} {k : Nat} {x : Byts × Byts} (h : S[k]? = some x) (q : Byts) : preF (S.take (k + 1)) q = if prefB x.1 q = true then preF (S.take k) q ++ [x.1] else preF (S.take k) q := by
  rw [take_at h]
  unfold preF
  rw [List.filter_append, List.map_append]
  by_cases hb : prefB x.1 q = true
  · rw [if_pos hb]; simp [hb]
  · rw [if_neg hb]
    have hb' : prefB x.1 q = false := by simpa using hb
    simp [hb']
theorem tv_ones (l : List Byts) : ∀ u ∈ l.map tv, u.oneCell' = true := fun u hu => by
  obtain ⟨x, _, rfl⟩ := List.mem_map.1 hu
  rfl

end Go.Proofs.YtbcldknecdbemaaDoor

/-
  store: Put, whole.
-/
namespace Go.Proofs.YtbcldknecdbemaaDoor
open Go.RowKit
set_option linter.unusedVariables false
set_option maxRecDepth 20000

theorem zero32_len : (zero32.map bv).length = 32 := rfl
theorem dig_load {u : World} {b : Nat} {l : Byts} (hl : l.length = 32) (h : Has u b (l.map bv)) : (Instr.loadAt 26 (.pointer (some ⟨b, 0, none⟩))).run Tryd.prog u = .ok (dv l) u :=
  h.load Tryd.underlying26 rfl (by rw [List.length_map, hl]; exact Hx.dig_size)
/-- What Put leaves and answers. -/
def PutOut (D : Dk) (b : Byts) (a m : Nat) (X : Nat → Prop) (w : World) (e : Ending) (w' : World) : Prop :=
  e = .returned (.tuple #[dv (putD D b).2.1, rv (putD D b).2.2]) ∧ Dsk w' a m X (putD D b).1 ∧ Turns (fun k => m ≤ k ∧ ¬ X k) w w'

set_option maxHeartbeats 4000000 in
theorem sput_any (a m : Nat) (X : Nat → Prop) (D : Dk) (w : World) (A : Option Addr) (n c : Nat) (b : Byts) (hd : Dsk w a m X D) (hX : ∀ k, X k → k < w.heap.size) (hk : Keys w) (hl : b.length = n) (hr : LiesIn (fun k => k < w.heap.size ∧ ¬ (m ≤ k ∧ ¬ X k)) w A (b.map bv)) (hc : n ≤ c) (hn : n ≤ 100000)
    (hW : D.weight ≤ 90000000) (hw : D.waits.length ≤ 100000) (hro : 0 ≤ D.room ∧ D.room ≤ 1048576) :
    Calls Tryd.prog 45 #[.pointer (some ⟨a, 0, none⟩), .slice A n c] w fun e w' => PutOut D b a m X w e w' := by
  have hrl : Lies w w.heap.size A (b.map bv) := fun j v hv => by
    obtain ⟨ad, e, h1, h2⟩ := hr j v hv
    exact ⟨ad, e, h1.1, h2⟩
  have SM := fun u (h : Grows w u) => sum_any A n c b u (hk.later h) hl (hrl.later h) (by omega)
  have HA := fun u (h : Grows w u) => shas_any a m X D u (shaOf b) (hd.later h) (hk.later h) (by omega) (shaOf_len b)
  have NM := fun u => Hx.name_any (shaOf b) u (shaOf_len b)
  have PS := fun (u : World) (X' : Nat → Prop) (B2 B7 B3 B6 S : Nat) (g : Grows w u) (hdu : Dsk u a m X' D) (hXu : ∀ k, X' k → k < u.heap.size) (hXX : ∀ k, X k → X' k) (h2 : Has u B2 [.pointer (some ⟨a, 0, none⟩)]) (h7 : Has u B7 [tv (aheadB (shaOf b))]) (h3 : Has u B3 [.slice A n c]) (h6 : Has u B6 ((shaOf b).map bv)) (hS : Has u S (psteps a B2 B7 B3 B6))
    (x2 : X' B2) (x7 : X' B7) (x3 : X' B3) (x6 : X' B6) (xS : X' S) => puts_any a m X' D u B2 B7 B3 B6 S A n c b (shaOf b) hdu hXu h2 h7 h3 h6 hS x2 x7 x3 x6 xS hl (fun j v hv => by
      obtain ⟨ad, e, h1, h2⟩ := hr j v hv
      exact ⟨ad, e, ⟨by have := g.size; omega, fun hh => h1.2 ⟨hh.1, fun hx => hh.2 (hXX _ hx)⟩⟩, hcell_later h2 g⟩) hc hn (shaOf_len b) hW hw hro
  have hnl := shaOf_len b
  obtain ⟨R, hR⟩ : ∃ R, R = putD D b := ⟨_, rfl⟩
  have HP := Lib.hid hR
  unfold PutOut
  rw [← hR]
  clear hR
  have hah : aheadB (shaOf b) = [116, 47] ++ Hx.hexOf (shaOf b) := rfl
  have hct := cat_text [116, 47] (Hx.hexOf (shaOf b))
  rw [← hah] at hct
  obtain ⟨nm, hnm⟩ : ∃ nm, nm = shaOf b := ⟨_, rfl⟩
  rw [← hnm] at SM HA NM PS hnl hct hah
  have hsz : (⟨(Hx.hexOf nm).toArray⟩ : ByteArray).size = 64 := by show (Hx.hexOf nm).toArray.size = 64; have := hex_len hnl; simpa using this
  have HNM := Lib.hid hnm
  have HL := Lib.hid hl
  clear hah hnm
  obtain ⟨b2, b3, b4, g3, s3⟩ := three_b w [Value.pointer (some ⟨a, 0, none⟩)] [Value.slice A n c] (zero32.map bv) 85 22 26 _ rfl
  obtain ⟨w3, hw3⟩ : ∃ w3, w3 = (((w.alloc (.cells [Value.pointer (some ⟨a, 0, none⟩)].toArray 85)).alloc (.cells [Value.slice A n c].toArray 22)).alloc (.cells (zero32.map bv).toArray 26)) := ⟨_, rfl⟩
  rw [← hw3] at b2 b3 b4 g3 s3
  have HW3 := Lib.hid hw3
  obtain ⟨B2, hB2⟩ : ∃ B, B = w.heap.size := ⟨_, rfl⟩
  obtain ⟨B3, hB3⟩ : ∃ B, B = w.heap.size + 1 := ⟨_, rfl⟩
  obtain ⟨B4, hB4⟩ : ∃ B, B = w.heap.size + 2 := ⟨_, rfl⟩
  rw [← hB2] at b2
  rw [← hB3] at b3
  rw [← hB4] at b4
  have HB := Lib.hid (show B2 = w.heap.size ∧ B3 = w.heap.size + 1 ∧ B4 = w.heap.size + 2 ∧ w3.heap.size = w.heap.size + 3 from ⟨hB2, hB3, hB4, s3⟩)
  have HE3 := Lib.hid (show w.heap.size + 1 = B3 from hB3.symm)
  have HE4 := Lib.hid (show w.heap.size + 1 + 1 = B4 from hB4.symm)
  have HE2 := Lib.hid hB2.symm
  have c3 := b3.cell (k := 0) rfl
  have z4 := zero32_len
  clear hw3 hB2 hB3 hB4 s3 hl
  by_cases hbig : 4096 < n
  · have hi : (4096 : Int) < (n : Int) := by omega
    go_enter Tryd.func45, Tryd.ntmps45
    go_wp2_with (first | (change wpList _ _ _ _ _ (((w.alloc (.cells [Value.pointer (some ⟨a, 0, none⟩)].toArray 85)).alloc (.cells [Value.slice A n c].toArray 22)).alloc (.cells (zero32.map bv).toArray 26)); rw [← HW3.out, HE4.out, HE3.out, HE2.out]; clear HW3) | (refine wpList_storeT rfl 26 (.tmp 4) (.tmp 12) rfl B4 (zero32.map bv) (zero32.map bv) 32 rfl rfl b4 z4 z4 Hx.dig_size (bv_one _) ?_; intro w9 b9 t9))
    (try simp only [Exit.inBlock, Exit.then])
    refine bodyPost_ret (res_has_two (vs := zero32.map bv) Tryd.results45 _ rfl Tryd.underlying26 rfl Hx.dig_size b9) rfl ?_
    have hp : putD D b = (D, zero32, 3) := by unfold putD; rw [if_pos (by have := HL.out; omega)]
    have hRe := HP.out
    rw [hp] at hRe
    subst hRe
    have hB := HB.out
    refine ⟨rfl, ?_, (Turns.of_grows g3).then_ t9 (fun k hk e => by omega)⟩
    exact (((hd.more (X' := fun k => X k ∨ w.heap.size ≤ k) (fun k h => h)).later g3).turned t9 (fun k e h => h.2 (.inr (by omega)))).more (fun k hk => .inl (.inl hk))
  · have hi : ¬ ((4096 : Int) < (n : Int)) := by omega
    have hi2 : (n : Int) ≤ 4096 := by omega
    go_enter Tryd.func45, Tryd.ntmps45
    go_wp2_with (first | (change wpList _ _ _ _ _ (((w.alloc (.cells [Value.pointer (some ⟨a, 0, none⟩)].toArray 85)).alloc (.cells [Value.slice A n c].toArray 22)).alloc (.cells (zero32.map bv).toArray 26)); rw [← HW3.out, HE4.out, HE3.out, HE2.out]; clear HW3))
    refine (SM w3 g3).mono ?_
    rintro e w4 ⟨rfl, g4⟩
    have hz6 := Has.new w4 26 (zero32.map bv)
    have ga4 := grows_alloc w4 (.cells (zero32.map bv).toArray 26)
    have hnl2 : (nm.map bv).length = 32 := by rw [List.length_map]; exact hnl
    obtain ⟨B6, hB6⟩ : ∃ B, B = w4.heap.size := ⟨_, rfl⟩
    have h34 := g4.size
    have b2 := b2.later (Grows.trans g4 ga4)
    have b3 := b3.later (Grows.trans g4 ga4)
    have b4 := b4.later (Grows.trans g4 ga4)
    rw [← hB6] at hz6
    have HB6 := Lib.hid hB6.symm
    have n26 : ¬ B2 = B6 := by have := HB.out; omega
    have n36 : ¬ B3 = B6 := by have := HB.out; omega
    have n46 : ¬ B4 = B6 := by have := HB.out; omega
    clear hB6
    go_wp2_with (first
      | (change wpList _ _ _ _ _ (w4.alloc (.cells (zero32.map bv).toArray 26)); rw [HB6.out]; generalize w4.alloc (.cells (zero32.map bv).toArray 26) = w5 at *)
      | (refine wpList_storeT rfl 26 (.tmp 6) (.tmp 14) rfl B6 (zero32.map bv) (nm.map bv) 32 rfl rfl hz6 z4 hnl2 Hx.dig_size (bv_one _) ?_; intro w6 b6 t6; have c2 := (b2.turned t6 n26).cell (k := 0) rfl; have ld6 := dig_load hnl b6)
      | (with_reducible refine wpList_loads rfl 26 (.tmp 6) rfl _ rfl _ ld6 ?_))
    have G6 : Grows w w6 := ((Turns.of_grows (S := fun k => w.heap.size ≤ k) (Grows.trans g3 (Grows.trans g4 ga4))).trans (t6.mono fun k _ e => by rw [e, ← HB6.out]; exact (Grows.trans g3 g4).size)).grows (fun k h1 h2 => by omega)
    have b2 := b2.turned t6 n26
    have b3 := b3.turned t6 n36
    have b4 := b4.turned t6 n46
    clear t6 ld6 c2 hz6 ga4 g4 g3 c3
    refine (HA w6 G6).mono ?_
    rintro e w7 ⟨rfl, g7⟩
    have G7 := Grows.trans G6 g7
    have b2 := b2.later g7
    have b3 := b3.later g7
    have b4 := b4.later g7
    have b6 := b6.later g7
    have ld7 := dig_load hnl b6
    by_cases hg : (getD D nm).2 = 0
    · have hdd : decide ((getD D nm).2 = 0) = true := by simpa using hg
      rw [hdd]
      clear hdd
      go_wp2_with (first
        | (refine wpList_storeT rfl 26 (.tmp 4) (.tmp 18) rfl B4 (zero32.map bv) (nm.map bv) 32 rfl rfl b4 z4 hnl2 Hx.dig_size (bv_one _) ?_; intro w9 b9 t9)
        | (with_reducible refine wpList_loads rfl 26 (.tmp 6) rfl _ rfl _ ld7 ?_))
      (try simp only [Exit.inBlock, Exit.then])
      refine bodyPost_ret (res_has_two (vs := nm.map bv) Tryd.results45 _ rfl Tryd.underlying26 rfl (by rw [hnl2]; exact Hx.dig_size) b9) rfl ?_
      have hp : putD D b = (D, nm, 0) := by unfold putD; rw [if_neg (by have := HL.out; omega), ← HNM.out, if_pos hg]
      have hRe := HP.out
      rw [hp] at hRe
      subst hRe
      have hB := HB.out
      refine ⟨rfl, ?_, (Turns.of_grows G7).then_ t9 (fun k hk e => by omega)⟩
      exact (((hd.more (X' := fun k => X k ∨ w.heap.size ≤ k) (fun k h => h)).later G7).turned t9 (fun k e h => h.2 (.inr (by omega)))).more (fun k hk => .inl (.inl hk))
    · have hdd : decide ((getD D nm).2 = 0) = false := by simpa using hg
      rw [hdd]
      clear hdd
      go_wp2_with (with_reducible refine wpList_loads rfl 26 (.tmp 6) rfl _ rfl _ ld7 ?_)
      refine (NM w7).mono ?_
      rintro e w8 ⟨rfl, g8⟩
      have G8 := Grows.trans G7 g8
      have h7s := Has.new w8 9 [tv (aheadB nm)]
      have ga8 := grows_alloc w8 (.cells [tv (aheadB nm)].toArray 9)
      have b2 := (b2.later g8).later ga8
      have b3 := (b3.later g8).later ga8
      have b4 := (b4.later g8).later ga8
      have b6 := (b6.later g8).later ga8
      have G9 := Grows.trans G8 ga8
      have hs9 := h7s.lt
      have h8s := G8.size
      have c2 := b2.cell (k := 0) rfl
      have hmf : ∀ (fn : Fn) (first cap : Array Value) (w : World), (Instr.makeFunc fn first cap).run Tryd.prog w = .ok (.func fn first cap) w := fun _ _ _ _ => rfl
      obtain ⟨w9, hw9⟩ : ∃ u, u = w8.alloc (.cells [tv (aheadB nm)].toArray 9) := ⟨_, rfl⟩
      obtain ⟨B7, hB7⟩ : ∃ u, u = w8.heap.size := ⟨_, rfl⟩
      rw [← hw9] at b2 b3 b4 b6 G9 hs9 c2 h7s
      rw [← hB7] at h7s hs9 h8s
      have HW9 := Lib.hid hw9.symm
      have HB7 := Lib.hid hB7.symm
      clear ga8 ld7 hw9 hB7
      go_wp2_with (first
        | (change wpList _ _ _ _ _ (w8.alloc (.cells [tv (aheadB nm)].toArray 9)); rw [HW9.out, HB7.out]))
      have hS := Has.new w9 110 (psteps a B2 B7 B3 B6)
      have ga9 := grows_alloc w9 (.cells (psteps a B2 B7 B3 B6).toArray 110)
      have h9s := G9.size
      change Calls _ _ _ (w9.alloc (.cells (psteps a B2 B7 B3 B6).toArray 110)) _
      generalize (w9.alloc (.cells (psteps a B2 B7 B3 B6).toArray 110)) = w10 at *
      generalize w9.heap.size = SB at *
      have G10 := Grows.trans G9 ga9
      have b2 := b2.later ga9
      have b3 := b3.later ga9
      have b4 := b4.later ga9
      have b6 := b6.later ga9
      have b7 := h7s.later ga9
      have hB := HB.out
      have hB6 := HB6.out
      have xB2 : Xn w w10 X B2 := ⟨.inr (by omega), b2.lt⟩
      have xB3 : Xn w w10 X B3 := ⟨.inr (by omega), b3.lt⟩
      have xB4 : Xn w w10 X B4 := ⟨.inr (by omega), b4.lt⟩
      have xB6 : Xn w w10 X B6 := ⟨.inr (by omega), b6.lt⟩
      have xB7 : Xn w w10 X B7 := ⟨.inr (by omega), b7.lt⟩
      have xS : Xn w w10 X SB := ⟨.inr (by omega), hS.lt⟩
      clear hB hB6
      refine (PS w10 (Xn w w10 X) B2 B7 B3 B6 SB G10 ((hd.more (X' := Xn w w10 X) (fun k hk => hk.1)).later G10) (fun k hk => hk.2) (fun k hk => ⟨.inl hk, Nat.lt_of_lt_of_le (hX k hk) G10.size⟩) b2 b7 b3 b6 hS xB2 xB7 xB3 xB6 xS).mono ?_
      rintro e w11 ⟨rfl, d11, t11⟩
      have hp : putD D b = ((putS D nm b).1, if (putS D nm b).2 = 0 then nm else zero32, (putS D nm b).2) := by unfold putD; rw [if_neg (by have := HL.out; omega), ← HNM.out, if_neg hg]
      have hRe := HP.out
      rw [hp] at hRe
      have b4 := b4.turned t11 (fun e => e.2 xB4)
      have b6 := b6.turned t11 (fun e => e.2 xB6)
      have ld11 := dig_load hnl b6
      have T11 : Turns (fun k => m ≤ k ∧ ¬ X k) w w11 := (Turns.of_grows G10).then_ t11 (fun k hk e => ⟨e.1, fun hx => e.2 ⟨.inl hx, Nat.lt_of_lt_of_le hk G10.size⟩⟩)
      clear hp b2 b3 b7 hS t11 PS SM HA NM hct c2 h7s
      generalize putS D nm b = E at *
      obtain ⟨D', er⟩ := E
      simp only at hRe d11
      have HRE := Lib.hid hRe
      clear hRe
      go_wp2_with fail
      refine (done_any er w11).mono ?_
      rintro e w11 ⟨rfl, rfl⟩
      by_cases he : er = 0
      · subst he
        have hd0 : decide ((0 : Int) = 0) = true := rfl
        go_wp2_with (first
          | (refine wpList_storeT rfl 26 (.tmp 4) (.tmp 35) rfl B4 (zero32.map bv) (nm.map bv) 32 rfl rfl b4 z4 hnl2 Hx.dig_size (bv_one _) ?_; intro w12 b9 t9)
          | (with_reducible refine wpList_loads rfl 26 (.tmp 6) rfl _ rfl _ ld11 ?_))
        (try simp only [Exit.inBlock, Exit.then])
        refine bodyPost_ret (res_has_two (vs := nm.map bv) Tryd.results45 _ rfl Tryd.underlying26 rfl (by rw [hnl2]; exact Hx.dig_size) b9) rfl ?_
        have hRe := HRE.out
        rw [if_pos trivial] at hRe
        subst hRe
        have hB := HB.out
        refine ⟨rfl, ((d11.turned t9 (fun k e h => h.2 (by rw [e]; exact xB4))).more (fun k hk => .inl ⟨.inl hk, Nat.lt_of_lt_of_le (hX k hk) G10.size⟩)), T11.then_ t9 (fun k hk e => by omega)⟩
      · have hd0 : decide (er = 0) = false := by simpa using he
        go_wp2_with (refine wpList_storeT rfl 26 (.tmp 4) (.tmp 33) rfl B4 (zero32.map bv) (zero32.map bv) 32 rfl rfl b4 z4 z4 Hx.dig_size (bv_one _) ?_; intro w12 b9 t9)
        (try simp only [Exit.inBlock, Exit.then])
        refine bodyPost_ret (res_has_two (vs := zero32.map bv) Tryd.results45 _ rfl Tryd.underlying26 rfl Hx.dig_size b9) rfl ?_
        have hRe := HRE.out
        rw [if_neg he] at hRe
        subst hRe
        have hB := HB.out
        refine ⟨rfl, ((d11.turned t9 (fun k e h => h.2 (by rw [e]; exact xB4))).more (fun k hk => .inl ⟨.inl hk, Nat.lt_of_lt_of_le (hX k hk) G10.size⟩)), T11.then_ t9 (fun k hk e => by omega)⟩
end Go.Proofs.YtbcldknecdbemaaDoor

/-
  Law 13: begin.
-/
namespace Go.Proofs.YtbcldknecdbemaaDoor
open Go.RowKit
set_option linter.unusedVariables false
set_option maxRecDepth 20000

theorem lies_text {w : World} {A : Option Addr} {c B : Nat} {l : Byts} (hl : Lies w B A (l.map bv)) : (convert 22 9 (.slice A l.length c)).run Tryd.prog w = .ok (tv l) w :=
  run_string_of w 22 5 Tryd.underlying22 Tryd.underlying5 9 Tryd.underlying9 _ A _ c l rfl hl
/-- A world at hand: the box of W, the disk. -/
def wL (a : Nat) (room : Int) : List Value := [.pointer (some ⟨a, 0, none⟩), rv room, .slice none 0 0, .slice none 0 0, .slice none 0 0, rv (-1)]
set_option maxHeartbeats 1000000 in
theorem begin_any (room : Int) (w : World) (hr : 1 ≤ room ∧ room ≤ 1048576) :
    Calls Tryd.prog 44 #[rv room] w fun e w' => ∃ bw a, e = .returned (.pointer (some ⟨bw, 0, none⟩)) ∧ Has w' bw (wL a room) ∧ Dsk w' a w.heap.size (fun k => k = bw) (newD room) ∧ w.heap.size ≤ bw ∧ Grows w w' := by
  have N0 := new_d room w hr
  have NR := fun u => new_r room u (fun _ => False)
  go_enter Tryd.func44, Tryd.ntmps44
  go_wp2_with fail
  refine N0.mono ?_
  rintro e w1 ⟨a, rfl, d1, g1⟩
  go_wp2_with fail
  refine (NR w1).mono ?_
  rintro e w2 ⟨rfl, _, g2⟩
  have hb := Has.new w2 91 (wL a room)
  have ga := grows_alloc w2 (.cells (wL a room).toArray 91)
  have d3 := ((d1.later g2).more (X' := fun k => k = w2.heap.size) (fun k e => .inr (Nat.le_of_eq e.symm))).later ga
  go_wp2_with fail
  go_ret
  exact ⟨_, a, rfl, hb, d3, (Grows.trans g1 g2).size, Grows.trans (Grows.trans g1 g2) ga⟩
end Go.Proofs.YtbcldknecdbemaaDoor

/-
  Law 13: its example.
-/
namespace Go.Proofs.YtbcldknecdbemaaDoor
open Go.RowKit
set_option linter.unusedVariables false
set_option maxRecDepth 20000

theorem seal_le (b : Byts) : (sealOf b).length ≤ b.length + 10 := (seal_len b).1
theorem new_still (room : Int) : newD room = still room [] (-1) := rfl
/-- A first Put of a disk. -/
theorem put_first (b : Byts) (room : Int) (hb : b.length ≤ 4096) (hr : (b.length : Int) + 10 ≤ room) : putD (newD room) b = (still room [(placeB (shaOf b), sealOf b)] (-1), shaOf b, 0) := by
  have := seal_le b
  exact put_all [] (-1) (.inl rfl) hb (.inl (by omega)) (by omega)
theorem still_wt (b : Byts) (room k : Int) (p : Byts) : (still room [(p, sealOf b)] k).weight ≤ b.length + 10 := by
  have := seal_le b
  show fUsed [(p, sealOf b)] + 0 ≤ _
  simp [fUsed]; omega

theorem lies_mark_in (w : World) (l : Byts) (fr : Nat × Nat) (ok : Nat → Prop) (h : ok w.heap.size) : LiesIn ok (w.alloc (.cells (l.map bv).toArray 5 fr)) (some ⟨w.heap.size, 0, none⟩) (l.map bv) := fun j u hu => by
  refine ⟨_, rfl, h, ?_⟩
  rw [add_plain, Nat.zero_add, World.cell?_alloc_mark]
  simpa using hu
set_option maxHeartbeats 4000000 in
theorem lives13_any (w : World) (hk : Keys w) : Calls Tryd.prog 22 #[] w fun e w' => e = .returned (.bool true) ∧ Grows w w' := by
  have B0 := begin_any 1000 w (by omega)
  have hp := put_first [104, 101, 108, 108, 111] 1000 (by decide) (by decide)
  have hg := get_whole (b := [104, 101, 108, 108, 111]) (room := 1000) (by decide) (-1) (by decide)
  have hwt := still_wt [104, 101, 108, 108, 111] 1000 (-1) (placeB (shaOf [104, 101, 108, 108, 111]))
  have PU := fun (u : World) (a m : Nat) (X : Nat → Prop) (A : Option Addr) (c : Nat) (hd : Dsk u a m X (newD 1000)) (hX : ∀ k, X k → k < u.heap.size) (hk : Keys u) (hr : LiesIn (fun k => k < u.heap.size ∧ ¬ (m ≤ k ∧ ¬ X k)) u A (([104, 101, 108, 108, 111] : Byts).map bv)) (hc : 5 ≤ c) => sput_any a m X (newD 1000) u A 5 c [104, 101, 108, 108, 111] hd hX hk rfl hr hc (by omega) (by decide) (by decide) (by decide)
  unfold PutOut at PU
  rw [hp] at PU
  have GT := fun (u : World) (a m : Nat) (X : Nat → Prop) (hd : Dsk u a m X (still 1000 [(placeB (shaOf [104, 101, 108, 108, 111]), sealOf [104, 101, 108, 108, 111])] (-1))) (hk : Keys u) => sget_any a m X _ u (shaOf [104, 101, 108, 108, 111]) hd hk (by have : ([104, 101, 108, 108, 111] : Byts).length = 5 := rfl; omega) (shaOf_len _)
  unfold GetOut at GT
  rw [hg] at GT
  have hnl := shaOf_len [104, 101, 108, 108, 111]
  generalize shaOf [104, 101, 108, 108, 111] = nm at *
  generalize hD1 : still 1000 [(placeB nm, sealOf [104, 101, 108, 108, 111])] (-1) = D1 at *
  have hw0 : D1.waits.length = 0 := by rw [← hD1]; rfl
  generalize newD 1000 = D0 at *
  have PL := fun u => place_any zero32 u rfl
  have hpz : placeB zero32 = [99, 47, 48, 48, 47, 48, 48, 48, 48, 48, 48, 48, 48, 48, 48, 48, 48, 48, 48, 48, 48, 48, 48, 48, 48, 48, 48, 48, 48, 48, 48, 48, 48, 48, 48, 48, 48, 48, 48, 48, 48, 48, 48, 48, 48, 48, 48, 48, 48, 48, 48, 48, 48, 48, 48, 48, 48, 48, 48, 48, 48, 48, 48, 48, 48, 48, 48, 48, 48] := by decide +kernel
  have SH := fun (s : Byts) (u : World) (hs : s.length ≤ 1000) => Hx.short_any s 6 u (by unfold maxLen; omega) (by omega)
  have hpl := place_len (nm := zero32) rfl
  have hp6 : (placeB zero32).take 6 = [99, 47, 48, 48, 47, 48] := by rw [hpz]; rfl
  have SH6 := fun u => SH (placeB zero32) u (by omega)
  rw [hp6] at SH6
  generalize placeB zero32 = pz at *
  have hsz : (⟨pz.toArray⟩ : ByteArray).size = 69 := by show pz.toArray.size = 69; simpa using hpl
  clear hpz hp hg hwt hD1 SH hp6 hpl
  go_enter Tryd.func22, Tryd.ntmps22
  go_wp2_with fail
  refine B0.mono ?_
  rintro e w1 ⟨bw, a, rfl, hb, d1, hbw, g1⟩
  generalize hme : w.heap.size = m at *
  have HM := Lib.hid hme
  clear hme
  have k1 := hk.later g1
  have hkp := hk.pos
  have cw := hb.cell (k := 0) rfl
  have hbl := hb.lt
  have hcv := Lib.run_convert_bytes_const (P := Tryd.prog) w1 22 5 #[.int .u8 104, .int .u8 101, .int .u8 108, .int .u8 108, .int .u8 111] 5 5 Tryd.underlying22 Tryd.underlying5
  have ga := grows_alloc w1 (.cells (([104, 101, 108, 108, 111] : Byts).map bv).toArray 5 (5, 6))
  have hs2 : (w1.alloc (.cells (([104, 101, 108, 108, 111] : Byts).map bv).toArray 5 (5, 6))).heap.size = w1.heap.size + 1 := World.size_alloc _ _
  have L1 := lies_mark_in w1 [104, 101, 108, 108, 111] (5, 6) (fun k => k < (w1.alloc (.cells (([104, 101, 108, 108, 111] : Byts).map bv).toArray 5 (5, 6))).heap.size ∧ ¬ (m ≤ k ∧ ¬ (k = bw ∨ k = w1.heap.size))) ⟨by rw [hs2]; omega, fun h => h.2 (.inr rfl)⟩
  have d2 := (d1.more (X' := fun k => k = bw ∨ k = w1.heap.size) (fun k h => h.imp id (fun e => Nat.le_of_eq e.symm))).later ga
  have C1 := PU _ a m _ _ 5 d2 (fun k h => by rw [hs2]; rcases h with h | h <;> omega) (k1.later ga) L1 (by omega)
  have hb2 := hb.later ga
  have hkm : ¬ (m ≤ 0) := by have := HM.out; omega
  clear hs2 L1 PU hb d1 d2
  go_wp2_with fail
  refine C1.mono ?_
  rintro e w3 ⟨rfl, d3, t3⟩
  have k3 := (k1.later ga).turned t3 (fun e => hkm e.1)
  have hb3 := hb2.turned t3 (fun e => e.2 (.inl rfl))
  have T3 : Turns (fun k => m ≤ k) w w3 := ((Turns.of_grows g1).trans (Turns.of_grows ga)).trans (t3.mono fun k _ e => e.1)
  clear C1 hcv t3 hb2 ga
  have hz4 := Has.new w3 26 (zero32.map bv)
  have ga3 := grows_alloc w3 (.cells (zero32.map bv).toArray 26)
  have hnl2 : (nm.map bv).length = 32 := by rw [List.length_map]; exact hnl
  have z4 := zero32_len
  obtain ⟨w4, hw4⟩ : ∃ u, u = w3.alloc (.cells (zero32.map bv).toArray 26) := ⟨_, rfl⟩
  obtain ⟨B2, hB2⟩ : ∃ u, u = w3.heap.size := ⟨_, rfl⟩
  have hb4 := hb3.later ga3
  have d4 := (d3.more (X' := fun k => (k = bw ∨ k = w1.heap.size) ∨ k = w3.heap.size) (fun k h => h.imp id (fun e => Nat.le_of_eq e.symm))).later ga3
  have k4 := k3.later ga3
  have n4 : ¬ bw = B2 := by have := hb3.lt; omega
  have hmB : m ≤ B2 := by have := HM.out; have := T3.size; omega
  rw [← hw4] at hz4 ga3 hb4 d4 k4
  rw [← hB2] at hz4 d4
  have HW4 := Lib.hid hw4.symm
  have HB2 := Lib.hid hB2.symm
  clear hw4 hB2 hb3 d3 k3
  go_wp2_with (first
    | (change wpList _ _ _ _ _ (w3.alloc (.cells (zero32.map bv).toArray 26)); rw [HW4.out, HB2.out])
    | (refine wpList_storeT rfl 26 (.tmp 2) (.tmp 18) rfl B2 (zero32.map bv) (nm.map bv) 32 rfl rfl hz4 z4 hnl2 Hx.dig_size (bv_one _) ?_; intro w5 b5 t5))
  have hb5 := hb4.turned t5 n4
  have d5 := d4.turned t5 (fun k e h => h.2 (.inr e))
  have k5 := k4.turned t5 (fun e => by rw [e] at hkm; exact hkm hmB)
  have T5 : Turns (fun k => m ≤ k) w w5 := (T3.trans (Turns.of_grows ga3)).trans (t5.mono fun k _ e => by rw [e]; exact hmB)
  have gd := (Grows.refl w5).drew
  have cw5 : ∀ u, Grows w5.drew u → u.cell? ⟨bw, 0, none⟩ = some (.pointer (some ⟨a, 0, none⟩)) := fun u h => hcell_later (hb5.cell (k := 0) rfl) (Grows.trans gd h)
  have ld5 : ∀ u, Grows w5.drew u → (Instr.loadAt 26 (.pointer (some ⟨B2, 0, none⟩))).run Tryd.prog u = .ok (dv nm) u := fun u h => dig_load hnl (b5.later (Grows.trans gd h))
  clear hz4 hb4 t5 d4 k4 ga3 T3
  refine wp_region_ord 11 [(0, true), (1, true), (2, true), (3, true), (4, true), (5, false), (6, true), (7, true), (8, true), (9, true), (10, true)] (by kernel_rfl) (by kernel_rfl) ?_
  have hO := Grows.refl w5.drew
  repeat (first | (refine ord_load hO _ _ (by simp only [List.getElem?_cons_succ, List.getElem?_cons_zero]; rfl) (by rfl) 26 (.tmp 2) (by rfl) _ (by rfl) ld5 ?_; try simp only [Act.put, List.setIfInBounds_toArray, List.set_cons_zero, List.set_cons_succ]) | (refine ord_take hO _ ?_ (by simp only [List.getElem?_cons_succ, List.getElem?_cons_zero]; rfl) (by rfl) ?_ ?_; rotate_left; (· (intro u hu0 hu; (try go_simp); (try with_reducible rfl))); try simp only [Act.put, List.setIfInBounds_toArray, List.set_cons_zero, List.set_cons_succ]) | (refine ord_skip _ (by simp only [List.getElem?_cons_succ, List.getElem?_cons_zero]; rfl) (by rfl) ?_; try simp only [Act.put, List.setIfInBounds_toArray, List.set_cons_zero, List.set_cons_succ]))
  (refine ord_move _ (by simp only [List.getElem?_cons_succ, List.getElem?_cons_zero]; rfl) (by rfl) (fun u hu K hK => ?_); go_simp)
  have gu := Grows.trans gd hu
  refine (GT u a m _ (d5.later gu) (k5.later gu)).mono ?_
  rintro e w6 ⟨A6, c6, rfl, hc6, hL6, g6⟩
  refine hK.out _ _ g6 ?_
  clear hK K hO cw5 ld5
  have hO := Grows.refl w6
  repeat (first | (refine ord_take hO _ ?_ (by simp only [List.getElem?_cons_succ, List.getElem?_cons_zero]; rfl) (by rfl) ?_ ?_; rotate_left; (· (intro u hu0 hu; (try go_simp); (try with_reducible rfl))); try simp only [Act.put, List.setIfInBounds_toArray, List.set_cons_zero, List.set_cons_succ]) | (refine ord_skip _ (by simp only [List.getElem?_cons_succ, List.getElem?_cons_zero]; rfl) (by rfl) ?_; try simp only [Act.put, List.setIfInBounds_toArray, List.set_cons_zero, List.set_cons_succ]))
  refine ord_done (fun w7 hu7 => ?_)
  simp only [List.drop_succ_cons, List.drop_zero]
  have G7 := Grows.trans gu (Grows.trans g6 hu7)
  have hb7 := hb5.later G7
  have d7 := d5.later G7
  have hL7 := hL6.later hu7
  have T7 := T5.trans (Turns.of_grows G7)
  clear hb5 d5 hL6 hO T5
  go_wp2_with fail
  refine NoPanic.normal ?_
  go_wp2_with fail
  refine (PL w7).mono ?_
  rintro e w8 ⟨rfl, g8⟩
  have cs : (convert 22 9 (.slice A6 5 c6)).run Tryd.prog w8 = .ok (tv [104, 101, 108, 108, 111]) w8 := lies_text (c := c6) (hL7.later g8)
  have e1 : ∀ t, binOp .eql t (tv [104, 101, 108, 108, 111]) (.string ⟨#[104, 101, 108, 108, 111]⟩) = (pure (.bool true) : Sem Value) := fun t => run_teq (P := Tryd.prog) t [104, 101, 108, 108, 111] [104, 101, 108, 108, 111]
  have e2 : ∀ t, binOp .eql t (tv [99, 47, 48, 48, 47, 48]) (.string ⟨#[99, 47, 48, 48, 47, 48]⟩) = (pure (.bool true) : Sem Value) := fun t => run_teq (P := Tryd.prog) t [99, 47, 48, 48, 47, 48] [99, 47, 48, 48, 47, 48]
  have hb8 := hb7.later g8
  have WT := fun (u : World) (h : Grows w8 u) => waits_d a m _ _ u (d7.later (Grows.trans g8 h))
  rw [hw0] at WT
  go_wp2_with fail
  refine (SH6 w8).mono ?_
  rintro e w9 ⟨rfl, rfl⟩
  have cw9 := hb8.cell (k := 0) rfl
  clear cs e1
  go_wp2_with fail
  refine (WT w8 (Grows.refl _)).mono ?_
  rintro e w10 ⟨rfl, rfl⟩
  go_wp2_with fail
  go_ret
  have T9 := T7.trans (Turns.of_grows g8)
  exact ⟨rfl, T9.grows fun k hk => by have := HM.out; omega⟩
end Go.Proofs.YtbcldknecdbemaaDoor

/-
  The reference's Place.
-/
namespace Go.Proofs.YtbcldknecdbemaaDoor
open Go.RowKit
set_option linter.unusedVariables false
set_option maxRecDepth 20000

set_option maxHeartbeats 400000 in
theorem rplace_any (l : Byts) (w : World) (hl : l.length = 32) :
    Calls Tryd.prog 21 #[dv l] w fun e w' => e = .returned (tv (placeB l)) ∧ Grows w w' := by
  have hbox := Box.new w 26 l
  have hg : Grows w (w.alloc (.cells (l.map bv).toArray 26)) := grows_alloc _ _
  have hld := hbox.load Tryd.underlying26 Hx.dig_size hl
  have NM := fun u => Hx.rname_any l u hl
  have hx := hex_len hl
  have hp : placeB l = [99, 47] ++ (Hx.hexOf l).take 2 ++ [47] ++ Hx.hexOf l := rfl
  rw [hp]
  generalize Hx.hexOf l = x at *
  have hsz : (⟨x.toArray⟩ : ByteArray).size = 64 := by show x.toArray.size = 64; simpa using hx
  have hex := Hx.extract_take x 2
  have e1 := cat_text [99, 47] (x.take 2)
  have e2 := cat_text ([99, 47] ++ x.take 2) [47]
  have e3 := cat_text ([99, 47] ++ x.take 2 ++ [47]) x
  have HL := Lib.hid hl
  clear hl hp hx
  go_enter Tryd.func21, Tryd.ntmps21
  go_wp2_with (with_reducible refine wpList_loads rfl 26 (.tmp 1) rfl _ rfl _ hld ?_)
  refine (NM _).mono ?_
  rintro e w1 ⟨rfl, hb⟩
  go_wp2_with fail
  go_ret
  exact ⟨rfl, Grows.trans hg hb⟩
end Go.Proofs.YtbcldknecdbemaaDoor

/-
  From the row's condition (the variable keys reads as its initialiser lays it) to what the walks ask.
-/
namespace Go.Proofs.YtbcldknecdbemaaDoor
open Go.RowKit
set_option linter.unusedVariables false
set_option maxRecDepth 20000
theorem gKeys : Tryd.prog.globalNamed "lighterage/sha.keys" = some 0 := by kernel_rfl
theorem tKeys : (Tryd.prog.globals[0]?).map (·.type) = some 205 := by kernel_rfl
theorem keys_tab : (Rows.laid_lighterage_sha_keys : DataW Unit) = Lib.tabData .u32 (roots64.map fun n : Nat => (n : Int)) := rfl
theorem keys_of_laid {W : World} (h : laidMetH Tryd.prog [("lighterage/sha.keys", Rows.laid_lighterage_sha_keys)] W) : Keys W := by
  rw [MakeChecks.laidMetH_plain _ _ _ (by kernel_rfl), keys_tab] at h
  have ht := Lib.tabIs_of_head gKeys tKeys Tryd.underlying205 Tryd.underlying62 (by kernel_rfl) (by kernel_rfl) h
  intro j u hu
  have hj : j < roots64.length := by have := (List.getElem?_eq_some_iff.1 hu).1; simpa using this
  have := ht.cell gKeys j (by simpa using hj)
  rw [Nat.zero_add, this, ← hu, List.getElem?_map, getD_some hj]
  simp [hj]
end Go.Proofs.YtbcldknecdbemaaDoor
