/-
  A region that draws its order, walked once, in one order of ours: what only reads, and reads the same in every later world, is taken as soon as it may come up; what makes memory is carried out where nothing else may come up. (Of no program.)
-/
import Derived.Test.YtkgkkobdpgnicaaDoorBase
import Derived.Deep.RegionHeld3
namespace Go.Proofs.YtkgkkobdpgnicaaDoor
open Go.RowKit
set_option linter.unusedVariables false

/-- Nothing of what is there in a has turned in b. -/
abbrev Grows (a b : World) : Prop := Below a.heap.size a b
theorem Grows.refl (a : World) : Grows a a := Below.refl _ _
theorem hcell_later {a b : World} {p : Addr} {u : Value} (h : a.cell? p = some u) (hb : Grows a b) : b.cell? p = some u := (hb.cell (World.block_lt_of_cell? a p h)).trans h
theorem Grows.trans {a b c : World} (h : Grows a b) (k : Grows b c) : Grows a c := grow_trans h k

section
variable {P : Program} {ops : Array Oper} {Q : Exit → Act → World → Prop} {md : Region.Mode}

/-- Whatever order is picked from here on; behind every operation the world has but grown. -/
def wpAnyG (P : Program) (md : Region.Mode) (ops : Array Oper) (Q : Exit → Act → World → Prop) : Nat → Array Bool → Act → World → Prop
  | 0, listed, a, w => Region.ready md ops listed = [] ∧ Q .normal a w
  | fuel + 1, listed, a, w =>
    (Region.ready md ops listed = [] → Q .normal a w) ∧
    ∀ i ∈ Region.ready md ops listed, wpOp P ops Q i (fun a' w' => Grows w w' ∧ wpAnyG P md ops Q fuel (listed.setIfInBounds i true) a' w') a w

theorem wpAny_of_grown : ∀ (fuel : Nat) (listed : Array Bool) (a : Act) (w : World), wpAnyG P md ops Q fuel listed a w → wpAny P md ops Q fuel listed a w
  | 0, _, _, _, h => h
  | fuel + 1, _, _, _, h => ⟨h.1, fun i hi => wpOp_mono (fun a' w' h' => wpAny_of_grown fuel _ a' w' h'.2) (h.2 i hi)⟩

theorem yields_weaken {S S' : World → Prop} {o : Oper} {v : Value} {a : Act} (h : YieldsIf P ops S o v a) (hS : ∀ w, S' w → S w) : YieldsIf P ops S' o v a :=
  h.imp (fun ⟨hw, hv⟩ => ⟨hw, fun w h' => hv w (hS w h')⟩) id

/-- What may come up now, and yields one value in this world and in all that come of it, may be taken first. -/
theorem wpAnyG_first {i : Nat} {oi : Oper} {v : Value} (hi : ops[i]? = some oi) (hsel : ∀ (j : Nat) (o : Oper) cs b, ops[j]? = some o → o.op ≠ .select cs b)
    (hQ : ∀ c a w, Q (.panic c) (a.put oi.dst v) w → Q (.panic c) a w) :
    ∀ (fuel : Nat) (listed : Array Bool) (a : Act) (w : World),
      (∀ j oj, ops[j]? = some oj → j ≠ i → listed.getD j true = false → (∀ e ∈ oj.after, Region.binds md e = true → e.on ≠ i) → oi.apart ops oj = true) →
      i ∈ Region.ready md ops listed → YieldsIf P ops (Grows w) oi v a →
      wpAnyG P md ops Q fuel (listed.setIfInBounds i true) (a.put oi.dst v) w → wpAnyG P md ops Q (fuel + 1) listed a w := by
  intro fuel
  induction fuel with
  | zero =>
    intro listed a w _ hr hy H
    refine ⟨fun h => (by rw [h] at hr; cases hr), fun j hj => ?_⟩
    by_cases hji : j = i
    · subst hji
      exact hy.wpOp hi (Grows.refl w) ⟨Grows.refl w, H⟩
    · have := ready_mono hj hji
      rw [H.1] at this
      cases this
  | succ fuel ih =>
    intro listed a w hfree hr hy H
    refine ⟨fun h => (by rw [h] at hr; cases hr), fun j hj => ?_⟩
    by_cases hji : j = i
    · subst hji
      exact hy.wpOp hi (Grows.refl w) ⟨Grows.refl w, H⟩
    · have h1 := H.2 j (ready_mono hj hji)
      obtain ⟨hjun, oj, hoj, hall⟩ := mem_ready.1 hj
      have hnot : ∀ e ∈ oj.after, Region.binds md e = true → e.on ≠ i := fun e he hb heq => by
        have h1 := hall e he hb
        have h0 := (mem_ready.1 hr).1
        rw [heq] at h1
        rcases Nat.lt_or_ge i listed.size with h' | h'
        · simp [h'] at h0 h1
          rw [h0] at h1
          cases h1
        · simp [Array.getElem?_eq_none h'] at h1
      have h2 := wpOp_putIf hoj (hfree j oj hoj hji hjun hnot) (fun cs b => hsel i oi cs b hi) (fun cs b => hsel j oj cs b hoj) hQ hy h1
      have hfree' : ∀ k ok, ops[k]? = some ok → k ≠ i → (listed.setIfInBounds j true).getD k true = false →
          (∀ e ∈ ok.after, Region.binds md e = true → e.on ≠ i) → oi.apart ops ok = true := fun k ok hk hki hun hno => by
        refine hfree k ok hk hki ?_ hno
        by_cases hjk : j = k
        · subst hjk
          exact hjun
        · rw [getD_set_ne true hjk] at hun
          exact hun
      refine wpOp_mono (fun a' w' h3 => ⟨h3.2.1, ih (listed.setIfInBounds j true) a' w' hfree' (ready_mono hr (Ne.symm hji)) (yields_weaken h3.1 fun u hu => Grows.trans h3.2.1 hu) ?_⟩) h2
      rw [Array.setIfInBounds_comm _ _ hji]
      exact h3.2.2

/-- Our order is one that may be: each number may come up; (i, true): nobody who may come ahead of it touches what it touches; (i, false): nobody else may come up. -/
def schedB (md : Region.Mode) (ops : Array Oper) : List (Nat × Bool) → Array Bool → Bool
  | [], listed => (Region.ready md ops listed).isEmpty
  | (i, true) :: s, listed => (Region.ready md ops listed).contains i && Region.free md ops listed i && schedB md ops s (listed.setIfInBounds i true)
  | (i, false) :: s, listed => Region.ready md ops listed == [i] && schedB md ops s (listed.setIfInBounds i true)

/-- The walk in our order. w0: the world in which the region began. -/
def wpSched (P : Program) (ops : Array Oper) (Q : Exit → Act → World → Prop) (w0 : World) : List (Nat × Bool) → Act → World → Prop
  | [], a, w => Q .normal a w
  | (i, true) :: s, a, w => ∃ o v, ops[i]? = some o ∧ YieldsIf P ops (fun u => Grows w0 u ∧ Grows w u) o v a ∧ wpSched P ops Q w0 s (a.put o.dst v) w
  | (i, false) :: s, a, w => wpOp P ops Q i (fun a' w' => Grows w w' ∧ wpSched P ops Q w0 s a' w') a w

theorem wpAnyG_of_sched (hs : Region.noSelect ops = true) (hQ : ∀ c a d v w, Q (.panic c) (Act.put a d v) w → Q (.panic c) a w) {w0 : World} :
    ∀ (s : List (Nat × Bool)) (listed : Array Bool) (a : Act) (w : World), Grows w0 w → schedB md ops s listed = true → wpSched P ops Q w0 s a w → wpAnyG P md ops Q s.length listed a w
  | [], listed, a, w, _, hB, h => ⟨by simpa [schedB] using hB, h⟩
  | (i, true) :: s, listed, a, w, hw, hB, h => by
    simp only [schedB, Bool.and_eq_true] at hB
    obtain ⟨⟨hr, hf⟩, hB'⟩ := hB
    obtain ⟨o, v, ho, hy, h'⟩ := h
    exact wpAnyG_first ho (Region.noSelect_spec hs) (fun c a w => hQ c a o.dst v w) s.length listed a w (Region.free_spec ho hf) (by simpa using hr)
      (yields_weaken hy fun u hu => ⟨Grows.trans hw hu, hu⟩) (wpAnyG_of_sched hs hQ s _ _ w hw hB' h')
  | (i, false) :: s, listed, a, w, hw, hB, h => by
    simp only [schedB, Bool.and_eq_true] at hB
    obtain ⟨hr, hB'⟩ := hB
    have hr' : Region.ready md ops listed = [i] := by simpa using hr
    refine ⟨fun h0 => (by rw [hr'] at h0; cases h0), fun j hj => ?_⟩
    rw [hr'] at hj
    have hji : j = i := by simpa using hj
    subst hji
    exact wpOp_mono (fun a' w' h' => ⟨h'.1, wpAnyG_of_sched hs hQ s _ a' w' (Grows.trans hw h'.1) hB' h'.2⟩) h

/-- THE RULE. -/
theorem wp_region_sched {id : Nat} {a : Act} {w : World} {l : List Oper} (s : List (Nat × Bool)) (hm : P.follows .mixedOrders = true)
    (hB : (Region.noSelect l.toArray && (s.length == l.toArray.size) && schedB .any l.toArray s (Array.replicate l.toArray.size false)) = true)
    (h : wpSched P l.toArray (NoPanic Q) w.drew s a w.drew) : (Code.region id l.toArray true).wp P Q a w := by
  simp only [Bool.and_eq_true] at hB
  obtain ⟨⟨h1, h2⟩, h3⟩ := hB
  refine wp_region_noPanic (wp_region_any hm (wpAny_of_grown _ _ _ _ ?_))
  have := wpAnyG_of_sched (P := P) (md := .any) (Q := NoPanic Q) h1 (fun c a d v w h => h) s (Array.replicate l.toArray.size false) a w.drew (Grows.refl _) h3 h
  rwa [beq_iff_eq.1 h2] at this

theorem sched_take {l : List Oper} {w0 w : World} {i : Nat} {s : List (Nat × Bool)} {a : Act} (o : Oper) (v : Value) (ho : l[i]? = some o)
    (hw : Region.wanted o (yielded l.toArray a.tmps) = true) (hy : ∀ u, Grows w0 u → Grows w u → (execOp a.eval o).run P u = .ok (.value v) u)
    (h : wpSched P l.toArray Q w0 s (a.put o.dst v) w) : wpSched P l.toArray Q w0 ((i, true) :: s) a w :=
  ⟨o, v, by simpa using ho, .inl ⟨hw, fun u hu => hy u hu.1 hu.2⟩, h⟩
theorem sched_skip {l : List Oper} {w0 w : World} {i : Nat} {s : List (Nat × Bool)} {a : Act} (o : Oper) (ho : l[i]? = some o)
    (hw : Region.wanted o (yielded l.toArray a.tmps) = false) (h : wpSched P l.toArray Q w0 s (a.put o.dst undef) w) : wpSched P l.toArray Q w0 ((i, true) :: s) a w :=
  ⟨o, undef, by simpa using ho, .inr ⟨hw, rfl⟩, h⟩
theorem sched_move {l : List Oper} {w0 w : World} {i : Nat} {s : List (Nat × Bool)} {a : Act} (o : Oper) (ho : l[i]? = some o)
    (hw : Region.wanted o (yielded l.toArray a.tmps) = true)
    (h : ∀ K : Act → World → Prop, Shut (∀ a' w', Grows w w' → wpSched P l.toArray Q w0 s a' w' → K a' w') → Oper.wp P o a w K Q) : wpSched P l.toArray Q w0 ((i, false) :: s) a w := by
  show wpOp _ _ _ _ _ _ _
  refine wpOp_step (by simpa using ho) fun K hK => ?_
  rw [if_pos hw]
  exact h K fun a' w' hg hs => hK a' w' ⟨hg, hs⟩
theorem sched_pass {l : List Oper} {w0 w : World} {i : Nat} {s : List (Nat × Bool)} {a : Act} (o : Oper) (ho : l[i]? = some o)
    (hw : Region.wanted o (yielded l.toArray a.tmps) = false) (h : wpSched P l.toArray Q w0 s (a.put o.dst undef) w) : wpSched P l.toArray Q w0 ((i, false) :: s) a w := by
  show wpOp _ _ _ _ _ _ _
  refine wpOp_step (by simpa using ho) fun K hK => ?_
  rw [if_neg (by rw [hw]; exact Bool.false_ne_true)]
  exact hK _ _ ⟨Grows.refl _, h⟩
theorem sched_done {l : List Oper} {w0 w : World} {a : Act} (h : Q .normal a w) : wpSched P l.toArray Q w0 [] a w := h
end
attribute [irreducible] wpSched
end Go.Proofs.YtkgkkobdpgnicaaDoor
