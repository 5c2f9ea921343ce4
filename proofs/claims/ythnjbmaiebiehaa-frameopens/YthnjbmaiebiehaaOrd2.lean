/-
  A region that draws its order (of no program), of which two operations that both make memory may come up in either order ahead of its tail.
-/
import Derived.Test.YthnjbmaiebiehaaOrd
namespace Go.Proofs.Ythnjbmaiebiehaa
open Go.RowKit
set_option linter.unusedVariables false

section
variable {P : Program} {md : Region.Mode} {ops : Array Oper} {Q : Exit → Act → World → Prop}

theorem ord_nil_eq (E : Act → World → Prop) (a : Act) (w : World) : wpOrd P ops Q E [] a w = ∀ u, Grows w u → E a u := by with_unfolding_all rfl
theorem ord_take_eq (E : Act → World → Prop) (i : Nat) (s : List (Nat × Bool)) (a : Act) (w : World) : wpOrd P ops Q E ((i, true) :: s) a w = ∃ o v, ops[i]? = some o ∧ YieldsG P ops w o v a ∧ wpOrd P ops Q E s (a.put o.dst v) w := by with_unfolding_all rfl
theorem ord_move_eq (E : Act → World → Prop) (i : Nat) (s : List (Nat × Bool)) (a : Act) (w : World) : wpOrd P ops Q E ((i, false) :: s) a w = ∀ u, Grows w u → wpOp P ops Q i (fun a' u' => Grows u u' ∧ wpOrd P ops Q E s a' u') a u := by with_unfolding_all rfl
/-- The two, each ahead of the other. -/
def bothB (md : Region.Mode) (ops : Array Oper) (n g i j : Nat) (listed : Array Bool) : Bool :=
  decide (i < n) && decide (j < n) && decide (i ≠ j) && (Region.ready md ops listed == [i, j]) && (Region.ready md ops (listed.setIfInBounds i true) == [j]) && (Region.ready md ops (listed.setIfInBounds j true) == [i]) && Region.seqB md ops g n ((listed.setIfInBounds i true).setIfInBounds j true)
def ordB2 (md : Region.Mode) (ops : Array Oper) (n g i j : Nat) : List (Nat × Bool) → Array Bool → Bool
  | [], listed => bothB md ops n g i j listed
  | (k, true) :: s, listed => decide (k < n) && (Region.ready md ops listed).contains k && Region.free md ops listed k && ordB2 md ops n g i j s (listed.setIfInBounds k true)
  | (k, false) :: s, listed => decide (k < n) && (Region.ready md ops listed == [k]) && ordB2 md ops n g i j s (listed.setIfInBounds k true)
/-- One, then the other. -/
def wpThen (P : Program) (ops : Array Oper) (Q : Exit → Act → World → Prop) (E : Act → World → Prop) (i j : Nat) (a : Act) (u : World) : Prop :=
  wpOp P ops Q i (fun a' u' => Grows u u' ∧ ∀ u2, Grows u' u2 → wpOp P ops Q j (fun a2 u3 => Grows u2 u3 ∧ ∀ u4, Grows u3 u4 → E a2 u4) a' u2) a u

theorem wpAnyU_then {n g i j : Nat} {E : Act → World → Prop} {listed : Array Bool} {a : Act} {w : World} (hi : i < n) (hj : j < n) (h1 : Region.ready md ops (listed.setIfInBounds i true) = [j]) (h2 : Region.seqB md ops g n ((listed.setIfInBounds i true).setIfInBounds j true) = true)
    (h : ∀ u, Grows w u → wpThen P ops Q E i j a u) : ∀ u, Grows w u → wpOp P ops Q i (fun a' u' => Grows u u' ∧ wpAnyU P md ops Q n (fun listed' a' w' => Region.seqB md ops g n listed' = true ∧ ∀ u, Grows w' u → E a' u) 1 (listed.setIfInBounds i true) a' u') a u := fun u hu => by
  refine wpOp_mono (fun a' u' h3 => ⟨h3.1, ?_, fun k hk => ?_⟩) (h u hu)
  · rw [h1]; simp
  · rw [h1] at hk
    obtain rfl : k = j := by simpa using hk
    exact ⟨hj, fun u2 hu2 => wpOp_mono (fun a2 u3 h4 => ⟨h4.1, h2, h4.2⟩) (h3.2 u2 hu2)⟩

theorem wpAnyU_of_ord2 {n g i j : Nat} {E : Act → World → Prop} (hs : Region.noSelect ops = true) (hQ : ∀ c a d v w, Q (.panic c) (Act.put a d v) w → Q (.panic c) a w)
    (hwait : ∀ i, i < n → ∀ listed, HeadInv md ops n listed → listed.getD i true = false → ∀ j ∈ Region.ready md ops listed, j < n) :
    ∀ (s : List (Nat × Bool)) (listed : Array Bool) (a : Act) (w : World), HeadInv md ops n listed → ordB2 md ops n g i j s listed = true → wpOrd P ops Q (fun a u => wpThen P ops Q E i j a u ∧ wpThen P ops Q E j i a u) s a w →
      wpAnyU P md ops Q n (fun listed' a' w' => Region.seqB md ops g n listed' = true ∧ ∀ u, Grows w' u → E a' u) (s.length + 2) listed a w
  | [], listed, a, w, inv, hB, h => by
    simp only [ordB2, bothB, Bool.and_eq_true, decide_eq_true_eq, beq_iff_eq] at hB
    obtain ⟨⟨⟨⟨⟨⟨hin, hjn⟩, hne⟩, hr⟩, hri⟩, hrj⟩, hsq⟩ := hB
    rw [ord_nil_eq] at h
    refine ⟨by rw [hr]; simp, fun k hk => ?_⟩
    rw [hr] at hk
    rcases List.mem_cons.1 hk with rfl | hk
    · exact ⟨hin, wpAnyU_then hin hjn hri hsq (fun u hu => (h u hu).1)⟩
    · obtain rfl : k = j := by simpa using hk
      exact ⟨hjn, wpAnyU_then hjn hin hrj (by rw [Array.setIfInBounds_comm _ _ hne] at hsq; exact hsq) (fun u hu => (h u hu).2)⟩
  | (k, true) :: s, listed, a, w, inv, hB, h => by
    simp only [ordB2, Bool.and_eq_true, decide_eq_true_eq] at hB
    obtain ⟨⟨⟨hin, hr⟩, hf⟩, hB'⟩ := hB
    rw [ord_take_eq] at h
    obtain ⟨o, v, ho, hy, h'⟩ := h
    have hr' : k ∈ Region.ready md ops listed := by simpa using hr
    exact wpAnyU_first ho (Region.noSelect_spec hs) (fun c a w => hQ c a o.dst v w) hin (hwait k hin) (fun _ _ _ _ hg hl => ⟨hl.1, fun u hu => hl.2 u (Grows.trans hg hu)⟩) (fun _ _ _ hl => seqB_ready hl.1)
      (s.length + 2) listed a w inv (Region.free_spec ho hf) hr' hy (wpAnyU_of_ord2 hs hQ hwait s _ _ w (inv.set hr' hin) hB' h')
  | (k, false) :: s, listed, a, w, inv, hB, h => by
    simp only [ordB2, Bool.and_eq_true, decide_eq_true_eq] at hB
    obtain ⟨⟨hin, hr⟩, hB'⟩ := hB
    rw [ord_move_eq] at h
    have hr' : Region.ready md ops listed = [k] := by simpa using hr
    have hm : k ∈ Region.ready md ops listed := by rw [hr']; simp
    refine ⟨fun h0 => (by rw [hr'] at h0; cases h0), fun j hj => ?_⟩
    rw [hr'] at hj
    have hji : j = k := by simpa using hj
    subst hji
    exact ⟨hin, fun u hu => wpOp_mono (fun a' w' h' => ⟨h'.1, wpAnyU_of_ord2 hs hQ hwait s _ a' w' (inv.set hm hin) hB' h'.2⟩) (h u hu)⟩

def ordWholeB2 (ops : Array Oper) (n i j : Nat) (s : List (Nat × Bool)) : Bool :=
  Region.noSelect ops && decide (n ≤ ops.size) && (decide (n = ops.size) || (Region.sinkB .any ops n && Region.chainB .any ops n)) && (s.length + 2 == n) && ordB2 .any ops n (ops.size - n) i j s (Array.replicate ops.size false)

/-- THE RULE. -/
theorem wp_region_ord2 {id : Nat} {a : Act} {w : World} {l : List Oper} (n i j : Nat) (s : List (Nat × Bool)) (hm : P.follows .mixedOrders = true) (hB : ordWholeB2 l.toArray n i j s = true)
    (h : wpOrd P l.toArray (NoPanic Q) (fun a u => wpThen P l.toArray (NoPanic Q) (fun a' u => wpList P l.toArray (NoPanic Q) (l.drop n) a' u) i j a u ∧ wpThen P l.toArray (NoPanic Q) (fun a' u => wpList P l.toArray (NoPanic Q) (l.drop n) a' u) j i a u) s a w.drew) : (Code.region id l.toArray true).wp P Q a w := by
  simp only [ordWholeB2, Bool.and_eq_true, decide_eq_true_eq, Bool.or_eq_true, beq_iff_eq] at hB
  obtain ⟨⟨⟨⟨hsel, hn⟩, hc⟩, hl⟩, hord⟩ := hB
  have hdl : (l.drop n).length = l.toArray.size - n := by simp
  have inv0 : HeadInv .any l.toArray n (Array.replicate l.toArray.size false) :=
    ⟨by simp, fun j oj _ hl => (by rw [getD_replicate_false] at hl; cases hl), fun t _ ht => getD_in (by simpa using ht) (getD_replicate_false _ _)⟩
  have hwait : ∀ i, i < n → ∀ listed, HeadInv .any l.toArray n listed → listed.getD i true = false → ∀ j ∈ Region.ready .any l.toArray listed, j < n := fun i hi listed inv hun j hj => by
    rcases hc with hc | ⟨hs, hch⟩
    · obtain ⟨_, oj, hoj, _⟩ := mem_ready.1 hj
      have := (Array.getElem?_eq_some_iff.1 hoj).1
      omega
    · rcases Nat.lt_or_ge j n with h | h
      · exact h
      · have hjs : j < l.toArray.size := by
          obtain ⟨_, oj, hoj, _⟩ := mem_ready.1 hj
          exact (Array.getElem?_eq_some_iff.1 hoj).1
        exact absurd hj (tail_waits hs hch (by omega) inv _ i rfl hi hun j h)
  refine wp_region_noPanic (wp_region_any hm ?_)
  have H := wpAnyU_of_ord2 (md := .any) (g := l.toArray.size - n) (Q := NoPanic Q) hsel (fun c a d v w h => h) hwait s _ a w.drew inv0 hord h
  have := wpAny_of_U (Q := NoPanic Q) (g := l.toArray.size - n) (fun listed a' w' hL => by
    have := wpAny_of_seq (md := .any) (Q' := NoPanic Q) (l.drop n) n listed a' w' (fun j => by simp [List.getElem?_drop]) (by rw [hdl]; exact hL.1) (hL.2 w' (Grows.refl _))
    rwa [hdl] at this) _ _ _ _ H
  rw [hl, show n + (l.toArray.size - n) = l.toArray.size by omega] at this
  exact this
/-- One of the two. -/
theorem op_move {l : List Oper} {i : Nat} {a : Act} {u : World} {R : Act → World → Prop} (o : Oper) (ho : l[i]? = some o) (hw : Region.wanted o (yielded l.toArray a.tmps) = true)
    (h : ∀ K : Act → World → Prop, Shut (∀ a' u', R a' u' → K a' u') → Oper.wp P o a u K Q) : wpOp P l.toArray Q i R a u := by
  refine wpOp_step (by simpa using ho) fun K hK => ?_
  rw [if_pos hw]
  exact h K fun a' w' hr => hK a' w' hr
end
end Go.Proofs.Ythnjbmaiebiehaa
