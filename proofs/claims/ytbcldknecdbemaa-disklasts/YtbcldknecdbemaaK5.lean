/-
  Contracts, joined (Plu).
-/
import Derived.Test.YtbcldknecdbemaaK3
import Derived.Test.YtbcldknecdbemaaK4

/-
  A region that draws its order (of no program), walked by a plan (as Pln), in which what comes up may turn blocks of S (as Oru).
-/
namespace Go.Proofs.Ytbcldknecdbemaa
open Go.RowKit
set_option linter.unusedVariables false
set_option maxRecDepth 20000

section
variable {P : Program} {ops : Array Oper} {Q : Exit → Act → World → Prop} {md : Region.Mode} {S : Nat → Prop}
def wpPlanC (S : Nat → Prop) (P : Program) (ops : Array Oper) (Q : Exit → Act → World → Prop) (E : Act → World → Prop) : Plan → Act → World → Prop
  | .fin, a, w => ∀ u, Grows w u → E a u
  | .take i p, a, w => ∃ o v, ops[i]? = some o ∧ YieldsC S P ops w o v a ∧ wpPlanC S P ops Q E p (a.put o.dst v) w
  | .one i p, a, w => ∀ u, Grows w u → wpOp P ops Q i (fun a' u' => Turns S u u' ∧ wpPlanC S P ops Q E p a' u') a u
  | .two i p j q, a, w => (∀ u, Grows w u → wpOp P ops Q i (fun a' u' => Turns S u u' ∧ wpPlanC S P ops Q E p a' u') a u) ∧ (∀ u, Grows w u → wpOp P ops Q j (fun a' u' => Turns S u u' ∧ wpPlanC S P ops Q E q a' u') a u)

theorem wpAnyC_of_plan {n g : Nat} {E : Act → World → Prop} (hs : Region.noSelect ops = true) (hQ : ∀ c a d v w, Q (.panic c) (Act.put a d v) w → Q (.panic c) a w)
    (hwait : ∀ i, i < n → ∀ listed, HeadInv md ops n listed → listed.getD i true = false → ∀ j ∈ Region.ready md ops listed, j < n) :
    ∀ (s : Plan) (listed : Array Bool) (a : Act) (w : World), HeadInv md ops n listed → planB md ops n g s listed = true → wpPlanC S P ops Q E s a w →
      wpAnyC S P md ops Q n (fun listed' a' w' => Region.seqB md ops g n listed' = true ∧ ∀ u, Grows w' u → E a' u) s.len listed a w
  | .fin, listed, a, w, inv, hB, h => ⟨hB, h⟩
  | .take i s, listed, a, w, inv, hB, h => by
    simp only [planB, Bool.and_eq_true, decide_eq_true_eq] at hB
    obtain ⟨⟨⟨hin, hr⟩, hf⟩, hB'⟩ := hB
    obtain ⟨o, v, ho, hy, h'⟩ := h
    have hr' : i ∈ Region.ready md ops listed := by simpa using hr
    exact wpAnyC_first ho (Region.noSelect_spec hs) (fun c a w => hQ c a o.dst v w) hin (hwait i hin) (fun _ _ _ _ hg hl => ⟨hl.1, fun u hu => hl.2 u (Grows.trans hg hu)⟩) (fun _ _ _ hl => seqB_ready hl.1)
      s.len listed a w inv (Region.free_spec ho hf) hr' hy (wpAnyC_of_plan hs hQ hwait s _ _ w (inv.set hr' hin) hB' h')
  | .one i s, listed, a, w, inv, hB, h => by
    simp only [planB, Bool.and_eq_true, decide_eq_true_eq] at hB
    obtain ⟨⟨hin, hr⟩, hB'⟩ := hB
    have hr' : Region.ready md ops listed = [i] := by simpa using hr
    have hm : i ∈ Region.ready md ops listed := by rw [hr']; simp
    refine ⟨fun h0 => (by rw [hr'] at h0; cases h0), fun j hj => ?_⟩
    rw [hr'] at hj
    have hji : j = i := by simpa using hj
    subst hji
    exact ⟨hin, fun u hu => wpOp_mono (fun a' w' h' => ⟨h'.1, wpAnyC_of_plan hs hQ hwait s _ a' w' (inv.set hm hin) hB' h'.2⟩) (h u hu)⟩
  | .two i s j t, listed, a, w, inv, hB, h => by
    simp only [planB, Bool.and_eq_true, decide_eq_true_eq, beq_iff_eq] at hB
    obtain ⟨⟨⟨⟨⟨hin, hjn⟩, hr'⟩, hlen⟩, hB1⟩, hB2⟩ := hB
    have hmi : i ∈ Region.ready md ops listed := by rw [hr']; simp
    have hmj : j ∈ Region.ready md ops listed := by rw [hr']; simp
    refine ⟨fun h0 => (by rw [hr'] at h0; cases h0), fun k hk => ?_⟩
    rw [hr'] at hk
    have hk2 : k = i ∨ k = j := by simpa using hk
    rcases hk2 with rfl | rfl
    · exact ⟨hin, fun u hu => wpOp_mono (fun a' w' h' => ⟨h'.1, wpAnyC_of_plan hs hQ hwait s _ a' w' (inv.set hmi hin) hB1 h'.2⟩) (h.1 u hu)⟩
    · refine ⟨hjn, fun u hu => wpOp_mono (fun a' w' h' => ⟨h'.1, ?_⟩) (h.2 u hu)⟩
      have := wpAnyC_of_plan (E := E) hs hQ hwait t _ a' w' (inv.set hmj hjn) hB2 h'.2
      rw [← hlen] at this
      exact this

/-- THE RULE. -/
theorem wp_region_planc {id : Nat} {a : Act} {w : World} {l : List Oper} (n : Nat) (s : Plan) (hm : P.follows .mixedOrders = true) (hB : planWholeB l.toArray n s = true)
    (h : wpPlanC S P l.toArray (NoPanic Q) (fun a' u => wpList P l.toArray (NoPanic Q) (l.drop n) a' u) s a w.drew) : (Code.region id l.toArray true).wp P Q a w := by
  simp only [planWholeB, Bool.and_eq_true, decide_eq_true_eq, Bool.or_eq_true, beq_iff_eq] at hB
  obtain ⟨⟨⟨⟨hsel, hn⟩, hc⟩, hl⟩, hord⟩ := hB
  have hdl : (l.drop n).length = l.toArray.size - n := by simp
  have inv0 : HeadInv .any l.toArray n (Array.replicate l.toArray.size false) :=
    ⟨by simp, fun j oj _ hl => (by rw [getD_replicate_false] at hl; cases hl), fun t _ ht => getD_in (by simpa using ht) (getD_replicate_false _ _)⟩
  have hwait : ∀ i, i < n → ∀ listed, HeadInv .any l.toArray n listed → listed.getD i true = false → ∀ j ∈ Region.ready .any l.toArray listed, j < n := fun i hi listed inv hun j hj => by
    rcases hc with hc | ⟨hs, hch⟩
    · obtain ⟨_, oj, hoj, _⟩ := mem_ready.1 hj
      have := (Array.getElem?_eq_some_iff.1 hoj).1
      omega
    · rcases Nat.lt_or_ge j n with h | h
      · exact h
      · have hjs : j < l.toArray.size := by
          obtain ⟨_, oj, hoj, _⟩ := mem_ready.1 hj
          exact (Array.getElem?_eq_some_iff.1 hoj).1
        exact absurd hj (tail_waits hs hch (by omega) inv _ i rfl hi hun j h)
  refine wp_region_noPanic (wp_region_any hm ?_)
  have H := wpAnyC_of_plan (md := .any) (g := l.toArray.size - n) (Q := NoPanic Q) hsel (fun c a d v w h => h) hwait s _ a w.drew inv0 hord h
  have := wpAny_of_C (Q := NoPanic Q) (g := l.toArray.size - n) (fun listed a' w' hL => by
    have := wpAny_of_seq (md := .any) (Q' := NoPanic Q) (l.drop n) n listed a' w' (fun j => by simp [List.getElem?_drop]) (by rw [hdl]; exact hL.1) (hL.2 w' (Grows.refl _))
    rwa [hdl] at this) _ _ _ _ H
  rw [hl, show n + (l.toArray.size - n) = l.toArray.size by omega] at this
  exact this

theorem planc_take {l : List Oper} {E : Act → World → Prop} {w0 w : World} {i : Nat} {s : Plan} {a : Act} (h0 : Turns S w0 w) (o : Oper) (v : Value) (ho : l[i]? = some o)
    (hw : Region.wanted o (yielded l.toArray a.tmps) = true) (hy : ∀ u, Turns S w0 u → Turns S w u → (execOp a.eval o).run P u = .ok (.value v) u)
    (h : wpPlanC S P l.toArray Q E s (a.put o.dst v) w) : wpPlanC S P l.toArray Q E (.take i s) a w :=
  ⟨o, v, by simpa using ho, .inl ⟨hw, fun u hu => by unfold Oper.quietAt; rw [hy u (Turns.trans h0 hu) hu]; exact ⟨rfl, rfl⟩⟩, h⟩
/-- A call that yields one value, and lets the world but grow. -/
theorem planc_call {l : List Oper} {E : Act → World → Prop} {w0 w : World} {i : Nat} {s : Plan} {a : Act} (h0 : Turns S w0 w) (o : Oper) (v : Value) (ho : l[i]? = some o)
    (hw : Region.wanted o (yielded l.toArray a.tmps) = true) (hy : ∀ u, Turns S w0 u → Turns S w u → Oper.quietUpon P (Grows u) u v ((execOp a.eval o).run P u))
    (h : wpPlanC S P l.toArray Q E s (a.put o.dst v) w) : wpPlanC S P l.toArray Q E (.take i s) a w :=
  ⟨o, v, by simpa using ho, .inl ⟨hw, fun u hu => hy u (Turns.trans h0 hu) hu⟩, h⟩
theorem planc_load {l : List Oper} {E : Act → World → Prop} {w0 w : World} {i : Nat} {s : Plan} {a : Act} (h0 : Turns S w0 w) (o : Oper) (v : Value) (ho : l[i]? = some o)
    (hw : Region.wanted o (yielded l.toArray a.tmps) = true) (ty : TypeId) (x : Operand) (hop : o.op = .load ty x) (p : Option Addr) (hx : a.eval x = .pointer p)
    (hy : ∀ u, Turns S w0 u → (Instr.loadAt ty (.pointer p)).run P u = .ok v u)
    (h : wpPlanC S P l.toArray Q E s (a.put o.dst v) w) : wpPlanC S P l.toArray Q E (.take i s) a w :=
  planc_take h0 o v ho hw (fun u hu _ => exec_load hop hx (hy u hu)) h
theorem planc_skip {l : List Oper} {E : Act → World → Prop} {w : World} {i : Nat} {s : Plan} {a : Act} (o : Oper) (ho : l[i]? = some o)
    (hw : Region.wanted o (yielded l.toArray a.tmps) = false) (h : wpPlanC S P l.toArray Q E s (a.put o.dst undef) w) : wpPlanC S P l.toArray Q E (.take i s) a w :=
  ⟨o, undef, by simpa using ho, .inr ⟨hw, rfl⟩, h⟩
theorem planc_move {l : List Oper} {E : Act → World → Prop} {w : World} {i : Nat} {s : Plan} {a : Act} (o : Oper) (ho : l[i]? = some o)
    (hw : Region.wanted o (yielded l.toArray a.tmps) = true)
    (h : ∀ u, Grows w u → ∀ K : Act → World → Prop, Shut (∀ a' u', Turns S u u' → wpPlanC S P l.toArray Q E s a' u' → K a' u') → Oper.wp P o a u K Q) : wpPlanC S P l.toArray Q E (.one i s) a w := by
  intro u hu
  refine wpOp_step (by simpa using ho) fun K hK => ?_
  rw [if_pos hw]
  exact h u hu K fun a' w' hg hs => hK a' w' ⟨hg, hs⟩
theorem planc_pass {l : List Oper} {E : Act → World → Prop} {w : World} {i : Nat} {s : Plan} {a : Act} (o : Oper) (ho : l[i]? = some o)
    (hw : Region.wanted o (yielded l.toArray a.tmps) = false) (h : ∀ u, Grows w u → wpPlanC S P l.toArray Q E s (a.put o.dst undef) u) : wpPlanC S P l.toArray Q E (.one i s) a w := by
  intro u hu
  refine wpOp_step (by simpa using ho) fun K hK => ?_
  rw [if_neg (by rw [hw]; exact Bool.false_ne_true)]
  exact hK _ _ ⟨Turns.refl S _, h u hu⟩
theorem planc_done {l : List Oper} {E : Act → World → Prop} {w : World} {a : Act} (h : ∀ u, Grows w u → E a u) : wpPlanC S P l.toArray Q E .fin a w := h

/-- A value built of parts, as one operation of a region that draws its order. -/
theorem planc_build {l : List Oper} {E : Act → World → Prop} {w0 w : World} {i : Nat} {s : Plan} {a : Act} (h0 : Turns S w0 w) (o : Oper) (v : Value) (ho : l[i]? = some o)
    (hw : Region.wanted o (yielded l.toArray a.tmps) = true) (t : TypeId) (parts : Array (Nat × Operand)) (hop : o.op = .build t parts) (ps : Array (Nat × Value)) (hy : ∀ u, (Instr.build t ps).run P u = .ok v u) (hp : (parts.map fun (i, x) => (i, a.eval x)) = ps)
    (h : wpPlanC S P l.toArray Q E s (a.put o.dst v) w) : wpPlanC S P l.toArray Q E (.take i s) a w :=
  planc_take h0 o v ho hw (fun u hu _ => by
    unfold execOp
    simp only [hop, hp, Sem.run_bind, hy u, Result.andThen_ok, Sem.run_pure]) h
/-- A slice built of parts. -/
theorem planc_bslice {l : List Oper} {E : Act → World → Prop} {w : World} {i : Nat} {s : Plan} {a : Act} (o : Oper) (ho : l[i]? = some o)
    (hw : Region.wanted o (yielded l.toArray a.tmps) = true) (t : TypeId) (len : Nat) (parts : Array (Nat × Operand)) (hop : o.op = .buildSlice t len parts) (ps : Array (Nat × Value)) (cs : List Value) (e : TypeId)
    (hy : ∀ u, (Instr.buildSlice t len ps).run P u = .ok (.slice (some ⟨u.heap.size, 0, none⟩) len len) (u.alloc (.cells cs.toArray e))) (hp : (parts.map fun (i, x) => (i, a.eval x)) = ps)
    (h : ∀ u, Grows w u → wpPlanC S P l.toArray Q E s (a.put o.dst (.slice (some ⟨u.heap.size, 0, none⟩) len len)) (u.alloc (.cells cs.toArray e))) : wpPlanC S P l.toArray Q E (.one i s) a w :=
  planc_move o ho hw (fun u hu K hK => by
    unfold Oper.wp execOp
    simp only [hop, hp, Sem.run_bind, hy u, Result.andThen_ok, Sem.run_pure]
    exact hK.out _ _ (Turns.of_grows ((Grows.refl u).alloc (Nat.le_refl _) _)) (h u hu))
/-- Two makers of memory may come up. -/
theorem planc_two {l : List Oper} {E : Act → World → Prop} {w : World} {i j : Nat} {s t : Plan} {a : Act} (o o' : Oper) (ho : l[i]? = some o) (ho' : l[j]? = some o')
    (hw : Region.wanted o (yielded l.toArray a.tmps) = true) (hw' : Region.wanted o' (yielded l.toArray a.tmps) = true)
    (h : ∀ u, Grows w u → ∀ K : Act → World → Prop, Shut (∀ a' u', Turns S u u' → wpPlanC S P l.toArray Q E s a' u' → K a' u') → Oper.wp P o a u K Q)
    (h' : ∀ u, Grows w u → ∀ K : Act → World → Prop, Shut (∀ a' u', Turns S u u' → wpPlanC S P l.toArray Q E t a' u' → K a' u') → Oper.wp P o' a u K Q) : wpPlanC S P l.toArray Q E (.two i s j t) a w := by
  refine ⟨fun u hu => wpOp_step (by simpa using ho) fun K hK => ?_, fun u hu => wpOp_step (by simpa using ho') fun K hK => ?_⟩
  · rw [if_pos hw]
    exact h u hu K fun a' w' hg hs => hK a' w' ⟨hg, hs⟩
  · rw [if_pos hw']
    exact h' u hu K fun a' w' hg hs => hK a' w' ⟨hg, hs⟩
/-- A store of a whole row in place of another. -/
theorem planc_storeT {l : List Oper} {E : Act → World → Prop} {w : World} {i : Nat} {s : Plan} {a : Act} (o : Oper) (ho : l[i]? = some o)
    (hw : Region.wanted o (yielded l.toArray a.tmps) = true) (ty : TypeId) (x y : Operand) (hop : o.op = .store ty x y)
    (b : Nat) (vs vs' : List Value) (n : Nat) (hx : a.eval x = .pointer (some ⟨b, 0, none⟩)) (hy : a.eval y = .agg vs'.toArray) (hb : Has w b vs) (hl : vs.length = n) (hl' : vs'.length = n) (hi : (P.info? ty).map (·.size) = some n)
    (h1 : ∀ v ∈ vs', v.oneCell' = true) (hS : S b) (h : ∀ u w', Grows w u → Has w' b vs' → Turns (fun k => k = b) u w' → wpPlanC S P l.toArray Q E s (a.put o.dst undef) w') : wpPlanC S P l.toArray Q E (.one i s) a w := by
  have hz : vs'.toArray.size = n := by simp [hl']
  refine planc_move o ho hw (fun u hu K hK => ?_)
  have hbu := hb.later hu
  have ht := turns_cells b vs' 0 u
  exact wp_store_mid ty x y hop b 0 vs'.toArray hx hy (by rw [hz, ← hl]; exact hbu.there) (by rw [hz]; exact hi) (all_oneCell_toArray h1) (hK.out _ _ (ht.mono fun k _ e => by subst e; exact hS) (h u _ hu (hbu.put_ (by rw [hl, hl'])) ht))
end
attribute [irreducible] wpPlanC
end Go.Proofs.Ytbcldknecdbemaa
