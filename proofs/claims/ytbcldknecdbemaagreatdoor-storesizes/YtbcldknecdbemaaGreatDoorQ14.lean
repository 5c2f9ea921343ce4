/-
  Contracts, joined (Oru Ord2 OrdV Pln Plu).
-/
import Derived.Test.YtbcldknecdbemaaGreatDoorQ1
import Derived.Test.YtbcldknecdbemaaGreatDoorQ11
import Derived.Test.YtbcldknecdbemaaGreatDoorQ13

/-
  As Ord, for a region in which an operation that comes alone may turn blocks of S (a call that writes a block, an append to a row); what is taken ahead of it reads none of them. (Of no program.)
-/
namespace Go.Proofs.YtbcldknecdbemaaGreatDoor
open Go.RowKit
set_option linter.unusedVariables false
set_option maxRecDepth 20000
section
variable {P : Program} {ops : Array Oper} {Q : Exit → Act → World → Prop} {md : Region.Mode} {S : Nat → Prop}

/-- In every world that has grown from w the operation yields v, and the world but grows. -/
def YieldsC (S : Nat → Prop) (P : Program) (ops : Array Oper) (w : World) (o : Oper) (v : Value) (a : Act) : Prop :=
  (Region.wanted o (yielded ops a.tmps) = true ∧ ∀ u, Turns S w u → Oper.quietAt P o a (Grows u) u v) ∨ (Region.wanted o (yielded ops a.tmps) = false ∧ v = undef)

theorem YieldsC.same {w : World} {o : Oper} {v : Value} {a a' : Act} (hy : YieldsC S P ops w o v a) (he : execOp a'.eval o = execOp a.eval o)
    (hw : Region.wanted o (yielded ops a'.tmps) = Region.wanted o (yielded ops a.tmps)) : YieldsC S P ops w o v a' := by
  unfold YieldsC Oper.quietAt at *
  rw [he, hw]
  exact hy
theorem YieldsC.later {w w' : World} {o : Oper} {v : Value} {a : Act} (hy : YieldsC S P ops w o v a) (h : Turns S w w') : YieldsC S P ops w' o v a :=
  hy.imp (fun ⟨h1, h2⟩ => ⟨h1, fun u hu => h2 u (Turns.trans h hu)⟩) id

theorem YieldsC.wpOp {w : World} {i : Nat} {o : Oper} {v : Value} {a : Act} (hi : ops[i]? = some o) (hy : YieldsC S P ops w o v a) {K : Act → World → Prop} {u : World} (hu : Turns S w u)
    (h : ∀ u', Grows u u' → K (a.put o.dst v) u') : wpOp P ops Q i K a u := by
  unfold Go.wpOp
  simp only [hi]
  rcases hy with ⟨hw, hv⟩ | ⟨hw, rfl⟩
  · rw [if_pos hw]
    refine .inl ?_
    have h1 := hv u hu
    unfold Oper.quietAt at h1
    unfold Oper.wp
    generalize (execOp a.eval o).run P u = r at *
    match r, h1 with
    | .ok (.value x) w', h1 => obtain ⟨rfl, rfl⟩ := h1; exact h _ (Grows.refl _)
    | .ok .skip w', h1 => obtain ⟨rfl, rfl⟩ := h1; exact h _ (Grows.refl _)
    | .ok (.enter f args) w', h1 =>
      obtain ⟨rfl, hc⟩ := h1
      exact Calls.mono hc fun e w'' ⟨he, hg⟩ => by subst he; exact h _ hg
  · rw [if_neg (by rw [hw]; exact Bool.false_ne_true)]
    exact h _ (Grows.refl _)

/-- Another operation, apart from it. -/
theorem wpOp_besideC {j : Nat} {oi oj : Oper} {v : Value} {w : World} (hj : ops[j]? = some oj) (hap : oi.apart ops oj = true)
    (hsi : ∀ cs b, oi.op ≠ .select cs b) (hsj : ∀ cs b, oj.op ≠ .select cs b)
    (hQ : ∀ c a w, Q (.panic c) (a.put oi.dst v) w → Q (.panic c) a w) {K : Act → World → Prop} {a : Act} {u : World}
    (hy : YieldsC S P ops w oi v a) (h : wpOp P ops Q j K (a.put oi.dst v) u) :
    wpOp P ops Q j (fun a' u' => YieldsC S P ops w oi v a' ∧ K (a'.put oi.dst v) u') a u := by
  have h1 := wpOp_putIf (S := fun _ => False) hj hap hsi hsj hQ (hy.imp (fun ⟨h1, _⟩ => ⟨h1, fun _ h => h.elim⟩) id) h
  obtain ⟨_, _, h3⟩ := Oper.apart_spec hap
  refine wpOp_mono (fun a' u' h2 => ⟨h2.1, h2.2.2⟩) (wpOp_kept (Y := fun a' => YieldsC S P ops w oi v a') hj (fun ds x => ?_) h1)
  exact YieldsC.same (a := { a with defers := ds }) (hy.same rfl rfl) (execOp_put oi hsi _ oj.dst x h3) (wanted_put oi _ oj.dst x h3)

/-- Whatever order is picked; behind every operation ahead of number n the world has but grown; L: what is asked there. -/
def wpAnyC (S : Nat → Prop) (P : Program) (md : Region.Mode) (ops : Array Oper) (Q : Exit → Act → World → Prop) (n : Nat) (L : Array Bool → Act → World → Prop) : Nat → Array Bool → Act → World → Prop
  | 0, listed, a, w => L listed a w
  | f + 1, listed, a, w => Region.ready md ops listed ≠ [] ∧ ∀ i ∈ Region.ready md ops listed, i < n ∧
      ∀ u, Grows w u → wpOp P ops Q i (fun a' u' => Turns S u u' ∧ wpAnyC S P md ops Q n L f (listed.setIfInBounds i true) a' u') a u

theorem wpAnyC_later {n : Nat} {L : Array Bool → Act → World → Prop} (hL : ∀ listed a w w', Grows w w' → L listed a w → L listed a w') :
    ∀ (f : Nat) (listed : Array Bool) (a : Act) (w w' : World), Grows w w' → wpAnyC S P md ops Q n L f listed a w → wpAnyC S P md ops Q n L f listed a w'
  | 0, _, _, _, _, hg, h => hL _ _ _ _ hg h
  | _ + 1, _, _, _, _, hg, h => ⟨h.1, fun i hi => ⟨(h.2 i hi).1, fun u hu => (h.2 i hi).2 u (Grows.trans hg hu)⟩⟩

theorem wpAny_of_C {n g : Nat} {L : Array Bool → Act → World → Prop} (hL : ∀ listed a w, L listed a w → wpAny P md ops Q g listed a w) :
    ∀ (f : Nat) (listed : Array Bool) (a : Act) (w : World), wpAnyC S P md ops Q n L f listed a w → wpAny P md ops Q (f + g) listed a w
  | 0, listed, a, w, h => by rw [Nat.zero_add]; exact hL _ _ _ h
  | f + 1, listed, a, w, h => by
    rw [show f + 1 + g = (f + g) + 1 by omega]
    exact ⟨fun h0 => absurd h0 h.1, fun i hi => wpOp_mono (fun a' w' h' => wpAny_of_C hL f _ a' w' h'.2) ((h.2 i hi).2 w (Grows.refl w))⟩

theorem wpAnyC_first {n i : Nat} {oi : Oper} {v : Value} {L : Array Bool → Act → World → Prop} (hi : ops[i]? = some oi) (hsel : ∀ (j : Nat) (o : Oper) cs b, ops[j]? = some o → o.op ≠ .select cs b)
    (hQ : ∀ c a w, Q (.panic c) (a.put oi.dst v) w → Q (.panic c) a w) (hin : i < n) (hwait : ∀ listed, HeadInv md ops n listed → listed.getD i true = false → ∀ j ∈ Region.ready md ops listed, j < n)
    (hL : ∀ listed a w w', Grows w w' → L listed a w → L listed a w') (hdone : ∀ listed a w, L listed a w → ∀ j ∈ Region.ready md ops listed, n ≤ j) :
    ∀ (f : Nat) (listed : Array Bool) (a : Act) (w : World), HeadInv md ops n listed →
      (∀ j oj, ops[j]? = some oj → j ≠ i → listed.getD j true = false → (∀ e ∈ oj.after, Region.binds md e = true → e.on ≠ i) → oi.apart ops oj = true) →
      i ∈ Region.ready md ops listed → YieldsC S P ops w oi v a →
      wpAnyC S P md ops Q n L f (listed.setIfInBounds i true) (a.put oi.dst v) w → wpAnyC S P md ops Q n L (f + 1) listed a w := by
  intro f
  induction f with
  | zero =>
    intro listed a w inv _ hr hy H
    have hun := (mem_ready.1 hr).1
    refine ⟨fun h => (by rw [h] at hr; cases hr), fun j hj => ⟨hwait listed inv hun j hj, fun u hu => ?_⟩⟩
    by_cases hji : j = i
    · subst hji
      exact hy.wpOp hi (Turns.of_grows hu) fun u' hu' => ⟨Turns.of_grows hu', hL _ _ _ _ (Grows.trans hu hu') H⟩
    · have h1 := hdone _ _ _ H j (ready_mono hj hji)
      have h2 := hwait listed inv hun j hj
      omega
  | succ f ih =>
    intro listed a w inv hfree hr hy H
    have hun := (mem_ready.1 hr).1
    refine ⟨fun h => (by rw [h] at hr; cases hr), fun j hj => ⟨hwait listed inv hun j hj, fun u hu => ?_⟩⟩
    by_cases hji : j = i
    · subst hji
      exact hy.wpOp hi (Turns.of_grows hu) fun u' hu' => ⟨Turns.of_grows hu', wpAnyC_later hL _ _ _ _ _ (Grows.trans hu hu') H⟩
    · have h1 := (H.2 j (ready_mono hj hji)).2 u hu
      obtain ⟨hjun, oj, hoj, hall⟩ := mem_ready.1 hj
      have hnot : ∀ e ∈ oj.after, Region.binds md e = true → e.on ≠ i := fun e he hb heq => by
        have h1 := hall e he hb
        rw [heq, getD_both hun] at h1
        cases h1
      have h2 := wpOp_besideC hoj (hfree j oj hoj hji hjun hnot) (fun cs b => hsel i oi cs b hi) (fun cs b => hsel j oj cs b hoj) hQ hy h1
      have hfree' : ∀ k ok, ops[k]? = some ok → k ≠ i → (listed.setIfInBounds j true).getD k true = false →
          (∀ e ∈ ok.after, Region.binds md e = true → e.on ≠ i) → oi.apart ops ok = true := fun k ok hk hki hun' hno => by
        refine hfree k ok hk hki ?_ hno
        by_cases hjk : j = k
        · subst hjk; exact hjun
        · rwa [getD_set_ne true hjk] at hun'
      refine wpOp_mono (fun a' u' h3 => ⟨h3.2.1, ih (listed.setIfInBounds j true) a' u' (inv.set hj (hwait listed inv hun j hj)) hfree' (ready_mono hr (Ne.symm hji)) (h3.1.later (Turns.trans (Turns.of_grows hu) h3.2.1)) ?_⟩) h2
      rw [Array.setIfInBounds_comm _ _ hji]
      exact h3.2.2

/-- The walk in our order, from every world that has grown from w; E: what is asked behind it. -/
def wpOrdC (S : Nat → Prop) (P : Program) (ops : Array Oper) (Q : Exit → Act → World → Prop) (E : Act → World → Prop) : List (Nat × Bool) → Act → World → Prop
  | [], a, w => ∀ u, Grows w u → E a u
  | (i, true) :: s, a, w => ∃ o v, ops[i]? = some o ∧ YieldsC S P ops w o v a ∧ wpOrdC S P ops Q E s (a.put o.dst v) w
  | (i, false) :: s, a, w => ∀ u, Grows w u → wpOp P ops Q i (fun a' u' => Turns S u u' ∧ wpOrdC S P ops Q E s a' u') a u

theorem wpAnyC_of_ord {n g : Nat} {E : Act → World → Prop} (hs : Region.noSelect ops = true) (hQ : ∀ c a d v w, Q (.panic c) (Act.put a d v) w → Q (.panic c) a w)
    (hwait : ∀ i, i < n → ∀ listed, HeadInv md ops n listed → listed.getD i true = false → ∀ j ∈ Region.ready md ops listed, j < n) :
    ∀ (s : List (Nat × Bool)) (listed : Array Bool) (a : Act) (w : World), HeadInv md ops n listed → ordB md ops n g s listed = true → wpOrdC S P ops Q E s a w →
      wpAnyC S P md ops Q n (fun listed' a' w' => Region.seqB md ops g n listed' = true ∧ ∀ u, Grows w' u → E a' u) s.length listed a w
  | [], listed, a, w, inv, hB, h => ⟨hB, h⟩
  | (i, true) :: s, listed, a, w, inv, hB, h => by
    simp only [ordB, Bool.and_eq_true, decide_eq_true_eq] at hB
    obtain ⟨⟨⟨hin, hr⟩, hf⟩, hB'⟩ := hB
    obtain ⟨o, v, ho, hy, h'⟩ := h
    have hr' : i ∈ Region.ready md ops listed := by simpa using hr
    exact wpAnyC_first ho (Region.noSelect_spec hs) (fun c a w => hQ c a o.dst v w) hin (hwait i hin) (fun _ _ _ _ hg hl => ⟨hl.1, fun u hu => hl.2 u (Grows.trans hg hu)⟩) (fun _ _ _ hl => seqB_ready hl.1)
      s.length listed a w inv (Region.free_spec ho hf) hr' hy (wpAnyC_of_ord hs hQ hwait s _ _ w (inv.set hr' hin) hB' h')
  | (i, false) :: s, listed, a, w, inv, hB, h => by
    simp only [ordB, Bool.and_eq_true, decide_eq_true_eq] at hB
    obtain ⟨⟨hin, hr⟩, hB'⟩ := hB
    have hr' : Region.ready md ops listed = [i] := by simpa using hr
    have hm : i ∈ Region.ready md ops listed := by rw [hr']; simp
    refine ⟨fun h0 => (by rw [hr'] at h0; cases h0), fun j hj => ?_⟩
    rw [hr'] at hj
    have hji : j = i := by simpa using hj
    subst hji
    exact ⟨hin, fun u hu => wpOp_mono (fun a' w' h' => ⟨h'.1, wpAnyC_of_ord hs hQ hwait s _ a' w' (inv.set hm hin) hB' h'.2⟩) (h u hu)⟩

/-- THE RULE. -/
theorem wp_region_callw {id : Nat} {a : Act} {w : World} {l : List Oper} (n : Nat) (s : List (Nat × Bool)) (hm : P.follows .mixedOrders = true) (hB : ordWholeB l.toArray n s = true)
    (h : wpOrdC S P l.toArray (NoPanic Q) (fun a' u => wpList P l.toArray (NoPanic Q) (l.drop n) a' u) s a w.drew) : (Code.region id l.toArray true).wp P Q a w := by
  simp only [ordWholeB, Bool.and_eq_true, decide_eq_true_eq, Bool.or_eq_true, beq_iff_eq] at hB
  obtain ⟨⟨⟨⟨hsel, hn⟩, hc⟩, hl⟩, hord⟩ := hB
  have hdl : (l.drop n).length = l.toArray.size - n := by simp
  have inv0 : HeadInv .any l.toArray n (Array.replicate l.toArray.size false) :=
    ⟨by simp, fun j oj _ hl => (by rw [getD_replicate_false] at hl; cases hl), fun t _ ht => getD_in (by simpa using ht) (getD_replicate_false _ _)⟩
  have hwait : ∀ i, i < n → ∀ listed, HeadInv .any l.toArray n listed → listed.getD i true = false → ∀ j ∈ Region.ready .any l.toArray listed, j < n := fun i hi listed inv hun j hj => by
    rcases hc with hc | ⟨hs, hch⟩
    · obtain ⟨_, oj, hoj, _⟩ := mem_ready.1 hj
      have := (Array.getElem?_eq_some_iff.1 hoj).1
      omega
    · rcases Nat.lt_or_ge j n with h | h
      · exact h
      · have hjs : j < l.toArray.size := by
          obtain ⟨_, oj, hoj, _⟩ := mem_ready.1 hj
          exact (Array.getElem?_eq_some_iff.1 hoj).1
        exact absurd hj (tail_waits hs hch (by omega) inv _ i rfl hi hun j h)
  refine wp_region_noPanic (wp_region_any hm ?_)
  have H := wpAnyC_of_ord (md := .any) (g := l.toArray.size - n) (Q := NoPanic Q) hsel (fun c a d v w h => h) hwait s _ a w.drew inv0 hord h
  have := wpAny_of_C (Q := NoPanic Q) (g := l.toArray.size - n) (fun listed a' w' hL => by
    have := wpAny_of_seq (md := .any) (Q' := NoPanic Q) (l.drop n) n listed a' w' (fun j => by simp [List.getElem?_drop]) (by rw [hdl]; exact hL.1) (hL.2 w' (Grows.refl _))
    rwa [hdl] at this) _ _ _ _ H
  rw [hl, show n + (l.toArray.size - n) = l.toArray.size by omega] at this
  exact this

theorem orc_take {l : List Oper} {E : Act → World → Prop} {w0 w : World} {i : Nat} {s : List (Nat × Bool)} {a : Act} (h0 : Turns S w0 w) (o : Oper) (v : Value) (ho : l[i]? = some o)
    (hw : Region.wanted o (yielded l.toArray a.tmps) = true) (hy : ∀ u, Turns S w0 u → Turns S w u → (execOp a.eval o).run P u = .ok (.value v) u)
    (h : wpOrdC S P l.toArray Q E s (a.put o.dst v) w) : wpOrdC S P l.toArray Q E ((i, true) :: s) a w :=
  ⟨o, v, by simpa using ho, .inl ⟨hw, fun u hu => by unfold Oper.quietAt; rw [hy u (Turns.trans h0 hu) hu]; exact ⟨rfl, rfl⟩⟩, h⟩
/-- A call that yields one value, and lets the world but grow. -/
theorem orc_call {l : List Oper} {E : Act → World → Prop} {w0 w : World} {i : Nat} {s : List (Nat × Bool)} {a : Act} (h0 : Turns S w0 w) (o : Oper) (v : Value) (ho : l[i]? = some o)
    (hw : Region.wanted o (yielded l.toArray a.tmps) = true) (hy : ∀ u, Turns S w0 u → Turns S w u → Oper.quietUpon P (Grows u) u v ((execOp a.eval o).run P u))
    (h : wpOrdC S P l.toArray Q E s (a.put o.dst v) w) : wpOrdC S P l.toArray Q E ((i, true) :: s) a w :=
  ⟨o, v, by simpa using ho, .inl ⟨hw, fun u hu => hy u (Turns.trans h0 hu) hu⟩, h⟩
theorem orc_load {l : List Oper} {E : Act → World → Prop} {w0 w : World} {i : Nat} {s : List (Nat × Bool)} {a : Act} (h0 : Turns S w0 w) (o : Oper) (v : Value) (ho : l[i]? = some o)
    (hw : Region.wanted o (yielded l.toArray a.tmps) = true) (ty : TypeId) (x : Operand) (hop : o.op = .load ty x) (p : Option Addr) (hx : a.eval x = .pointer p)
    (hy : ∀ u, Turns S w0 u → (Instr.loadAt ty (.pointer p)).run P u = .ok v u)
    (h : wpOrdC S P l.toArray Q E s (a.put o.dst v) w) : wpOrdC S P l.toArray Q E ((i, true) :: s) a w :=
  orc_take h0 o v ho hw (fun u hu _ => exec_load hop hx (hy u hu)) h
theorem orc_skip {l : List Oper} {E : Act → World → Prop} {w : World} {i : Nat} {s : List (Nat × Bool)} {a : Act} (o : Oper) (ho : l[i]? = some o)
    (hw : Region.wanted o (yielded l.toArray a.tmps) = false) (h : wpOrdC S P l.toArray Q E s (a.put o.dst undef) w) : wpOrdC S P l.toArray Q E ((i, true) :: s) a w :=
  ⟨o, undef, by simpa using ho, .inr ⟨hw, rfl⟩, h⟩
theorem orc_move {l : List Oper} {E : Act → World → Prop} {w : World} {i : Nat} {s : List (Nat × Bool)} {a : Act} (o : Oper) (ho : l[i]? = some o)
    (hw : Region.wanted o (yielded l.toArray a.tmps) = true)
    (h : ∀ u, Grows w u → ∀ K : Act → World → Prop, Shut (∀ a' u', Turns S u u' → wpOrdC S P l.toArray Q E s a' u' → K a' u') → Oper.wp P o a u K Q) : wpOrdC S P l.toArray Q E ((i, false) :: s) a w := by
  intro u hu
  refine wpOp_step (by simpa using ho) fun K hK => ?_
  rw [if_pos hw]
  exact h u hu K fun a' w' hg hs => hK a' w' ⟨hg, hs⟩
theorem orc_pass {l : List Oper} {E : Act → World → Prop} {w : World} {i : Nat} {s : List (Nat × Bool)} {a : Act} (o : Oper) (ho : l[i]? = some o)
    (hw : Region.wanted o (yielded l.toArray a.tmps) = false) (h : ∀ u, Grows w u → wpOrdC S P l.toArray Q E s (a.put o.dst undef) u) : wpOrdC S P l.toArray Q E ((i, false) :: s) a w := by
  intro u hu
  refine wpOp_step (by simpa using ho) fun K hK => ?_
  rw [if_neg (by rw [hw]; exact Bool.false_ne_true)]
  exact hK _ _ ⟨Turns.refl S _, h u hu⟩
theorem orc_done {l : List Oper} {E : Act → World → Prop} {w : World} {a : Act} (h : ∀ u, Grows w u → E a u) : wpOrdC S P l.toArray Q E [] a w := h

/-- A value built of parts, as one operation of a region that draws its order. -/
theorem orc_build {l : List Oper} {E : Act → World → Prop} {w0 w : World} {i : Nat} {s : List (Nat × Bool)} {a : Act} (h0 : Turns S w0 w) (o : Oper) (v : Value) (ho : l[i]? = some o)
    (hw : Region.wanted o (yielded l.toArray a.tmps) = true) (t : TypeId) (parts : Array (Nat × Operand)) (hop : o.op = .build t parts) (ps : Array (Nat × Value)) (hy : ∀ u, (Instr.build t ps).run P u = .ok v u) (hp : (parts.map fun (i, x) => (i, a.eval x)) = ps)
    (h : wpOrdC S P l.toArray Q E s (a.put o.dst v) w) : wpOrdC S P l.toArray Q E ((i, true) :: s) a w :=
  orc_take h0 o v ho hw (fun u hu _ => by
    unfold execOp
    simp only [hop, hp, Sem.run_bind, hy u, Result.andThen_ok, Sem.run_pure]) h
/-- A slice built of parts. -/
theorem orc_bslice {l : List Oper} {E : Act → World → Prop} {w : World} {i : Nat} {s : List (Nat × Bool)} {a : Act} (o : Oper) (ho : l[i]? = some o)
    (hw : Region.wanted o (yielded l.toArray a.tmps) = true) (t : TypeId) (len : Nat) (parts : Array (Nat × Operand)) (hop : o.op = .buildSlice t len parts) (ps : Array (Nat × Value)) (cs : List Value) (e : TypeId)
    (hy : ∀ u, (Instr.buildSlice t len ps).run P u = .ok (.slice (some ⟨u.heap.size, 0, none⟩) len len) (u.alloc (.cells cs.toArray e))) (hp : (parts.map fun (i, x) => (i, a.eval x)) = ps)
    (h : ∀ u, Grows w u → wpOrdC S P l.toArray Q E s (a.put o.dst (.slice (some ⟨u.heap.size, 0, none⟩) len len)) (u.alloc (.cells cs.toArray e))) : wpOrdC S P l.toArray Q E ((i, false) :: s) a w :=
  orc_move o ho hw (fun u hu K hK => by
    unfold Oper.wp execOp
    simp only [hop, hp, Sem.run_bind, hy u, Result.andThen_ok, Sem.run_pure]
    exact hK.out _ _ (Turns.of_grows ((Grows.refl u).alloc (Nat.le_refl _) _)) (h u hu))
end
attribute [irreducible] wpOrdC
end Go.Proofs.YtbcldknecdbemaaGreatDoor

/-
  A region that draws its order (of no program), of which two operations that both make memory may come up in either order ahead of its tail.
-/
namespace Go.Proofs.YtbcldknecdbemaaGreatDoor
open Go.RowKit
set_option linter.unusedVariables false
set_option maxRecDepth 20000

section
variable {P : Program} {md : Region.Mode} {ops : Array Oper} {Q : Exit → Act → World → Prop}

theorem ord_nil_eq (E : Act → World → Prop) (a : Act) (w : World) : wpOrd P ops Q E [] a w = ∀ u, Grows w u → E a u := by with_unfolding_all rfl
theorem ord_take_eq (E : Act → World → Prop) (i : Nat) (s : List (Nat × Bool)) (a : Act) (w : World) : wpOrd P ops Q E ((i, true) :: s) a w = ∃ o v, ops[i]? = some o ∧ YieldsG P ops w o v a ∧ wpOrd P ops Q E s (a.put o.dst v) w := by with_unfolding_all rfl
theorem ord_move_eq (E : Act → World → Prop) (i : Nat) (s : List (Nat × Bool)) (a : Act) (w : World) : wpOrd P ops Q E ((i, false) :: s) a w = ∀ u, Grows w u → wpOp P ops Q i (fun a' u' => Grows u u' ∧ wpOrd P ops Q E s a' u') a u := by with_unfolding_all rfl
/-- The two, each ahead of the other. -/
def bothB (md : Region.Mode) (ops : Array Oper) (n g i j : Nat) (listed : Array Bool) : Bool :=
  decide (i < n) && decide (j < n) && decide (i ≠ j) && (Region.ready md ops listed == [i, j]) && (Region.ready md ops (listed.setIfInBounds i true) == [j]) && (Region.ready md ops (listed.setIfInBounds j true) == [i]) && Region.seqB md ops g n ((listed.setIfInBounds i true).setIfInBounds j true)
def ordB2 (md : Region.Mode) (ops : Array Oper) (n g i j : Nat) : List (Nat × Bool) → Array Bool → Bool
  | [], listed => bothB md ops n g i j listed
  | (k, true) :: s, listed => decide (k < n) && (Region.ready md ops listed).contains k && Region.free md ops listed k && ordB2 md ops n g i j s (listed.setIfInBounds k true)
  | (k, false) :: s, listed => decide (k < n) && (Region.ready md ops listed == [k]) && ordB2 md ops n g i j s (listed.setIfInBounds k true)
/-- One, then the other. -/
def wpThen (P : Program) (ops : Array Oper) (Q : Exit → Act → World → Prop) (E : Act → World → Prop) (i j : Nat) (a : Act) (u : World) : Prop :=
  wpOp P ops Q i (fun a' u' => Grows u u' ∧ ∀ u2, Grows u' u2 → wpOp P ops Q j (fun a2 u3 => Grows u2 u3 ∧ ∀ u4, Grows u3 u4 → E a2 u4) a' u2) a u

theorem wpAnyU_then {n g i j : Nat} {E : Act → World → Prop} {listed : Array Bool} {a : Act} {w : World} (hi : i < n) (hj : j < n) (h1 : Region.ready md ops (listed.setIfInBounds i true) = [j]) (h2 : Region.seqB md ops g n ((listed.setIfInBounds i true).setIfInBounds j true) = true)
    (h : ∀ u, Grows w u → wpThen P ops Q E i j a u) : ∀ u, Grows w u → wpOp P ops Q i (fun a' u' => Grows u u' ∧ wpAnyU P md ops Q n (fun listed' a' w' => Region.seqB md ops g n listed' = true ∧ ∀ u, Grows w' u → E a' u) 1 (listed.setIfInBounds i true) a' u') a u := fun u hu => by
  refine wpOp_mono (fun a' u' h3 => ⟨h3.1, ?_, fun k hk => ?_⟩) (h u hu)
  · rw [h1]; simp
  · rw [h1] at hk
    obtain rfl : k = j := by simpa using hk
    exact ⟨hj, fun u2 hu2 => wpOp_mono (fun a2 u3 h4 => ⟨h4.1, h2, h4.2⟩) (h3.2 u2 hu2)⟩

theorem wpAnyU_of_ord2 {n g i j : Nat} {E : Act → World → Prop} (hs : Region.noSelect ops = true) (hQ : ∀ c a d v w, Q (.panic c) (Act.put a d v) w → Q (.panic c) a w)
    (hwait : ∀ i, i < n → ∀ listed, HeadInv md ops n listed → listed.getD i true = false → ∀ j ∈ Region.ready md ops listed, j < n) :
    ∀ (s : List (Nat × Bool)) (listed : Array Bool) (a : Act) (w : World), HeadInv md ops n listed → ordB2 md ops n g i j s listed = true → wpOrd P ops Q (fun a u => wpThen P ops Q E i j a u ∧ wpThen P ops Q E j i a u) s a w →
      wpAnyU P md ops Q n (fun listed' a' w' => Region.seqB md ops g n listed' = true ∧ ∀ u, Grows w' u → E a' u) (s.length + 2) listed a w
  | [], listed, a, w, inv, hB, h => by
    simp only [ordB2, bothB, Bool.and_eq_true, decide_eq_true_eq, beq_iff_eq] at hB
    obtain ⟨⟨⟨⟨⟨⟨hin, hjn⟩, hne⟩, hr⟩, hri⟩, hrj⟩, hsq⟩ := hB
    rw [ord_nil_eq] at h
    refine ⟨by rw [hr]; simp, fun k hk => ?_⟩
    rw [hr] at hk
    rcases List.mem_cons.1 hk with rfl | hk
    · exact ⟨hin, wpAnyU_then hin hjn hri hsq (fun u hu => (h u hu).1)⟩
    · obtain rfl : k = j := by simpa using hk
      exact ⟨hjn, wpAnyU_then hjn hin hrj (by rw [Array.setIfInBounds_comm _ _ hne] at hsq; exact hsq) (fun u hu => (h u hu).2)⟩
  | (k, true) :: s, listed, a, w, inv, hB, h => by
    simp only [ordB2, Bool.and_eq_true, decide_eq_true_eq] at hB
    obtain ⟨⟨⟨hin, hr⟩, hf⟩, hB'⟩ := hB
    rw [ord_take_eq] at h
    obtain ⟨o, v, ho, hy, h'⟩ := h
    have hr' : k ∈ Region.ready md ops listed := by simpa using hr
    exact wpAnyU_first ho (Region.noSelect_spec hs) (fun c a w => hQ c a o.dst v w) hin (hwait k hin) (fun _ _ _ _ hg hl => ⟨hl.1, fun u hu => hl.2 u (Grows.trans hg hu)⟩) (fun _ _ _ hl => seqB_ready hl.1)
      (s.length + 2) listed a w inv (Region.free_spec ho hf) hr' hy (wpAnyU_of_ord2 hs hQ hwait s _ _ w (inv.set hr' hin) hB' h')
  | (k, false) :: s, listed, a, w, inv, hB, h => by
    simp only [ordB2, Bool.and_eq_true, decide_eq_true_eq] at hB
    obtain ⟨⟨hin, hr⟩, hB'⟩ := hB
    rw [ord_move_eq] at h
    have hr' : Region.ready md ops listed = [k] := by simpa using hr
    have hm : k ∈ Region.ready md ops listed := by rw [hr']; simp
    refine ⟨fun h0 => (by rw [hr'] at h0; cases h0), fun j hj => ?_⟩
    rw [hr'] at hj
    have hji : j = k := by simpa using hj
    subst hji
    exact ⟨hin, fun u hu => wpOp_mono (fun a' w' h' => ⟨h'.1, wpAnyU_of_ord2 hs hQ hwait s _ a' w' (inv.set hm hin) hB' h'.2⟩) (h u hu)⟩

def ordWholeB2 (ops : Array Oper) (n i j : Nat) (s : List (Nat × Bool)) : Bool :=
  Region.noSelect ops && decide (n ≤ ops.size) && (decide (n = ops.size) || (Region.sinkB .any ops n && Region.chainB .any ops n)) && (s.length + 2 == n) && ordB2 .any ops n (ops.size - n) i j s (Array.replicate ops.size false)

/-- THE RULE. -/
theorem wp_region_ord2 {id : Nat} {a : Act} {w : World} {l : List Oper} (n i j : Nat) (s : List (Nat × Bool)) (hm : P.follows .mixedOrders = true) (hB : ordWholeB2 l.toArray n i j s = true)
    (h : wpOrd P l.toArray (NoPanic Q) (fun a u => wpThen P l.toArray (NoPanic Q) (fun a' u => wpList P l.toArray (NoPanic Q) (l.drop n) a' u) i j a u ∧ wpThen P l.toArray (NoPanic Q) (fun a' u => wpList P l.toArray (NoPanic Q) (l.drop n) a' u) j i a u) s a w.drew) : (Code.region id l.toArray true).wp P Q a w := by
  simp only [ordWholeB2, Bool.and_eq_true, decide_eq_true_eq, Bool.or_eq_true, beq_iff_eq] at hB
  obtain ⟨⟨⟨⟨hsel, hn⟩, hc⟩, hl⟩, hord⟩ := hB
  have hdl : (l.drop n).length = l.toArray.size - n := by simp
  have inv0 : HeadInv .any l.toArray n (Array.replicate l.toArray.size false) :=
    ⟨by simp, fun j oj _ hl => (by rw [getD_replicate_false] at hl; cases hl), fun t _ ht => getD_in (by simpa using ht) (getD_replicate_false _ _)⟩
  have hwait : ∀ i, i < n → ∀ listed, HeadInv .any l.toArray n listed → listed.getD i true = false → ∀ j ∈ Region.ready .any l.toArray listed, j < n := fun i hi listed inv hun j hj => by
    rcases hc with hc | ⟨hs, hch⟩
    · obtain ⟨_, oj, hoj, _⟩ := mem_ready.1 hj
      have := (Array.getElem?_eq_some_iff.1 hoj).1
      omega
    · rcases Nat.lt_or_ge j n with h | h
      · exact h
      · have hjs : j < l.toArray.size := by
          obtain ⟨_, oj, hoj, _⟩ := mem_ready.1 hj
          exact (Array.getElem?_eq_some_iff.1 hoj).1
        exact absurd hj (tail_waits hs hch (by omega) inv _ i rfl hi hun j h)
  refine wp_region_noPanic (wp_region_any hm ?_)
  have H := wpAnyU_of_ord2 (md := .any) (g := l.toArray.size - n) (Q := NoPanic Q) hsel (fun c a d v w h => h) hwait s _ a w.drew inv0 hord h
  have := wpAny_of_U (Q := NoPanic Q) (g := l.toArray.size - n) (fun listed a' w' hL => by
    have := wpAny_of_seq (md := .any) (Q' := NoPanic Q) (l.drop n) n listed a' w' (fun j => by simp [List.getElem?_drop]) (by rw [hdl]; exact hL.1) (hL.2 w' (Grows.refl _))
    rwa [hdl] at this) _ _ _ _ H
  rw [hl, show n + (l.toArray.size - n) = l.toArray.size by omega] at this
  exact this
/-- One of the two. -/
theorem op_move {l : List Oper} {i : Nat} {a : Act} {u : World} {R : Act → World → Prop} (o : Oper) (ho : l[i]? = some o) (hw : Region.wanted o (yielded l.toArray a.tmps) = true)
    (h : ∀ K : Act → World → Prop, Shut (∀ a' u', R a' u' → K a' u') → Oper.wp P o a u K Q) : wpOp P l.toArray Q i R a u := by
  refine wpOp_step (by simpa using ho) fun K hK => ?_
  rw [if_pos hw]
  exact h K fun a' w' hr => hK a' w' hr
end
end Go.Proofs.YtbcldknecdbemaaGreatDoor

/-
  A region that draws its order (of no program), walked by a tree of orders to its very end: readers and calls that yield one value as soon as they may come up (while one is not yet done, no store comes up); operations that read no memory as soon as they may come up, stores or not; makers of memory and stores where nothing else may come up, or, of two of them, both ways.
-/
namespace Go.Proofs.YtbcldknecdbemaaGreatDoor
open Go.RowKit
set_option linter.unusedVariables false
set_option maxRecDepth 20000

inductive OV where
  | done
  | take (i : Nat) (t : OV)
  | pure (i : Nat) (t : OV)
  | move (i : Nat) (t : OV)
  | both (i j : Nat) (t1 t2 : OV)
section
variable {P : Program} {md : Region.Mode} {ops : Array Oper} {Q : Exit → Act → World → Prop} {n : Nat}

/-- Whatever order is picked; behind every operation ahead of number n the world has but grown. -/
def wpV (P : Program) (md : Region.Mode) (ops : Array Oper) (Q : Exit → Act → World → Prop) (n : Nat) : Nat → Array Bool → Act → World → Prop
  | 0, listed, a, w => Region.ready md ops listed = [] ∧ ∀ u, Grows w u → Q .normal a u
  | f + 1, listed, a, w => Region.ready md ops listed ≠ [] ∧ ∀ i ∈ Region.ready md ops listed, ∀ u, Grows w u → wpOp P ops Q i (fun a' u' => (i < n → Grows u u') ∧ wpV P md ops Q n f (listed.setIfInBounds i true) a' u') a u
theorem wpV_later : ∀ (f : Nat) (listed : Array Bool) (a : Act) (w w' : World), Grows w w' → wpV P md ops Q n f listed a w → wpV P md ops Q n f listed a w'
  | 0, _, _, _, _, hg, h => ⟨h.1, fun u hu => h.2 u (Grows.trans hg hu)⟩
  | _ + 1, _, _, _, _, hg, h => ⟨h.1, fun i hi u hu => h.2 i hi u (Grows.trans hg hu)⟩
theorem wpAny_of_V : ∀ (f : Nat) (listed : Array Bool) (a : Act) (w : World), wpV P md ops Q n f listed a w → wpAny P md ops Q f listed a w
  | 0, _, _, w, h => ⟨h.1, h.2 w (Grows.refl w)⟩
  | f + 1, _, _, w, h => ⟨fun h0 => absurd h0 h.1, fun i hi => wpOp_mono (fun a' w' h' => wpAny_of_V f _ a' w' h'.2) (h.2 i hi w (Grows.refl w))⟩

theorem wpV_first {i : Nat} {oi : Oper} {v : Value} (hi : ops[i]? = some oi) (hsel : ∀ (j : Nat) (o : Oper) cs b, ops[j]? = some o → o.op ≠ .select cs b)
    (hQ : ∀ c a w, Q (.panic c) (a.put oi.dst v) w → Q (.panic c) a w) (hwait : ∀ listed : Array Bool, listed.getD i true = false → ∀ j ∈ Region.ready md ops listed, j < n) :
    ∀ (f : Nat) (listed : Array Bool) (a : Act) (w : World),
      (∀ j oj, ops[j]? = some oj → j ≠ i → listed.getD j true = false → (∀ e ∈ oj.after, Region.binds md e = true → e.on ≠ i) → oi.apart ops oj = true) →
      i ∈ Region.ready md ops listed → YieldsG P ops w oi v a →
      wpV P md ops Q n f (listed.setIfInBounds i true) (a.put oi.dst v) w → wpV P md ops Q n (f + 1) listed a w := by
  intro f
  induction f with
  | zero =>
    intro listed a w _ hr hy H
    refine ⟨fun h => (by rw [h] at hr; cases hr), fun j hj u hu => ?_⟩
    by_cases hji : j = i
    · subst hji
      exact hy.wpOp hi hu fun u' hu' => ⟨fun _ => hu', wpV_later 0 _ _ _ _ (Grows.trans hu hu') H⟩
    · have h1 := ready_mono hj hji
      rw [H.1] at h1
      cases h1
  | succ f ih =>
    intro listed a w hfree hr hy H
    have hun := (mem_ready.1 hr).1
    refine ⟨fun h => (by rw [h] at hr; cases hr), fun j hj u hu => ?_⟩
    by_cases hji : j = i
    · subst hji
      exact hy.wpOp hi hu fun u' hu' => ⟨fun _ => hu', wpV_later _ _ _ _ _ (Grows.trans hu hu') H⟩
    · have h1 := H.2 j (ready_mono hj hji) u hu
      obtain ⟨hjun, oj, hoj, hall⟩ := mem_ready.1 hj
      have hnot : ∀ e ∈ oj.after, Region.binds md e = true → e.on ≠ i := fun e he hb heq => by
        have h1 := hall e he hb
        rw [heq, getD_both hun] at h1
        cases h1
      have h2 := wpOp_beside hoj (hfree j oj hoj hji hjun hnot) (fun cs b => hsel i oi cs b hi) (fun cs b => hsel j oj cs b hoj) hQ hy h1
      have hfree' : ∀ k ok, ops[k]? = some ok → k ≠ i → (listed.setIfInBounds j true).getD k true = false →
          (∀ e ∈ ok.after, Region.binds md e = true → e.on ≠ i) → oi.apart ops ok = true := fun k ok hk hki hun' hno => by
        refine hfree k ok hk hki ?_ hno
        by_cases hjk : j = k
        · subst hjk; exact hjun
        · rwa [getD_set_ne true hjk] at hun'
      refine wpOp_mono (fun a' u' h3 => ?_) h2
      have hg := h3.2.1 (hwait listed hun j hj)
      refine ⟨fun _ => hg, ih (listed.setIfInBounds j true) a' u' hfree' (ready_mono hr (Ne.symm hji)) (h3.1.later (Grows.trans hu hg)) ?_⟩
      rw [Array.setIfInBounds_comm _ _ hji]
      exact h3.2.2
/-- An operation that reads no memory, beside any other. -/
theorem wpOp_beside_pure {j : Nat} {oi oj : Oper} {v : Value} (hj : ops[j]? = some oj) (hap : oi.apart ops oj = true)
    (hsi : ∀ cs b, oi.op ≠ .select cs b) (hsj : ∀ cs b, oj.op ≠ .select cs b)
    (hQ : ∀ c a w, Q (.panic c) (a.put oi.dst v) w → Q (.panic c) a w) {K : Act → World → Prop} {a : Act} {u : World}
    (hy : ∀ w, YieldsG P ops w oi v a) (h : wpOp P ops Q j K (a.put oi.dst v) u) :
    wpOp P ops Q j (fun a' u' => (∀ w, YieldsG P ops w oi v a') ∧ K (a'.put oi.dst v) u') a u := by
  have h1 := wpOp_putIf (S := fun _ => False) hj hap hsi hsj hQ ((hy u).imp (fun ⟨h1, _⟩ => ⟨h1, fun _ h => h.elim⟩) id) h
  obtain ⟨_, _, h3⟩ := Oper.apart_spec hap
  refine wpOp_mono (fun a' u' h2 => ⟨h2.1, h2.2.2⟩) (wpOp_kept (Y := fun a' => ∀ w, YieldsG P ops w oi v a') hj (fun ds x w => ?_) h1)
  exact YieldsG.same (a := { a with defers := ds }) ((hy w).same rfl rfl) (execOp_put oi hsi _ oj.dst x h3) (wanted_put oi _ oj.dst x h3)
theorem wpV_pure {i : Nat} {oi : Oper} {v : Value} (hi : ops[i]? = some oi) (hsel : ∀ (j : Nat) (o : Oper) cs b, ops[j]? = some o → o.op ≠ .select cs b)
    (hQ : ∀ c a w, Q (.panic c) (a.put oi.dst v) w → Q (.panic c) a w) :
    ∀ (f : Nat) (listed : Array Bool) (a : Act) (w : World),
      (∀ j oj, ops[j]? = some oj → j ≠ i → listed.getD j true = false → (∀ e ∈ oj.after, Region.binds md e = true → e.on ≠ i) → oi.apart ops oj = true) →
      i ∈ Region.ready md ops listed → (∀ w, YieldsG P ops w oi v a) →
      wpV P md ops Q n f (listed.setIfInBounds i true) (a.put oi.dst v) w → wpV P md ops Q n (f + 1) listed a w := by
  intro f
  induction f with
  | zero =>
    intro listed a w _ hr hy H
    refine ⟨fun h => (by rw [h] at hr; cases hr), fun j hj u hu => ?_⟩
    by_cases hji : j = i
    · subst hji
      exact (hy w).wpOp hi hu fun u' hu' => ⟨fun _ => hu', wpV_later 0 _ _ _ _ (Grows.trans hu hu') H⟩
    · have h1 := ready_mono hj hji
      rw [H.1] at h1
      cases h1
  | succ f ih =>
    intro listed a w hfree hr hy H
    have hun := (mem_ready.1 hr).1
    refine ⟨fun h => (by rw [h] at hr; cases hr), fun j hj u hu => ?_⟩
    by_cases hji : j = i
    · subst hji
      exact (hy w).wpOp hi hu fun u' hu' => ⟨fun _ => hu', wpV_later _ _ _ _ _ (Grows.trans hu hu') H⟩
    · have h1 := H.2 j (ready_mono hj hji) u hu
      obtain ⟨hjun, oj, hoj, hall⟩ := mem_ready.1 hj
      have hnot : ∀ e ∈ oj.after, Region.binds md e = true → e.on ≠ i := fun e he hb heq => by
        have h1 := hall e he hb
        rw [heq, getD_both hun] at h1
        cases h1
      have h2 := wpOp_beside_pure hoj (hfree j oj hoj hji hjun hnot) (fun cs b => hsel i oi cs b hi) (fun cs b => hsel j oj cs b hoj) hQ hy h1
      have hfree' : ∀ k ok, ops[k]? = some ok → k ≠ i → (listed.setIfInBounds j true).getD k true = false →
          (∀ e ∈ ok.after, Region.binds md e = true → e.on ≠ i) → oi.apart ops ok = true := fun k ok hk hki hun' hno => by
        refine hfree k ok hk hki ?_ hno
        by_cases hjk : j = k
        · subst hjk; exact hjun
        · rwa [getD_set_ne true hjk] at hun'
      refine wpOp_mono (fun a' u' h3 => ⟨h3.2.1, ih (listed.setIfInBounds j true) a' u' hfree' (ready_mono hr (Ne.symm hji)) h3.1 ?_⟩) h2
      rw [Array.setIfInBounds_comm _ _ hji]
      exact h3.2.2

/-- Every operation from number n on waits for i. -/
def waitB (md : Region.Mode) (ops : Array Oper) (n i : Nat) : Bool := (List.range ops.size).all fun t => decide (t < n) || (match ops[t]? with | some o => o.after.any (fun e => Region.binds md e && e.on == i) | none => true)
theorem waitB_spec {i : Nat} (h : waitB md ops n i = true) (listed : Array Bool) (hun : listed.getD i true = false) : ∀ j ∈ Region.ready md ops listed, j < n := fun j hj => by
  obtain ⟨_, oj, hoj, hall⟩ := mem_ready.1 hj
  have hlt := (Array.getElem?_eq_some_iff.1 hoj).1
  have h1 := (List.all_eq_true.1 h) j (List.mem_range.2 hlt)
  rw [hoj] at h1
  simp only [Bool.or_eq_true, decide_eq_true_eq] at h1
  rcases h1 with h1 | h1
  · exact h1
  · obtain ⟨k, hk, he⟩ := Array.any_eq_true.1 h1
    simp only [Bool.and_eq_true, beq_iff_eq] at he
    have h2 := hall _ (Array.getElem_mem hk) he.1
    rw [he.2, getD_both hun] at h2
    cases h2
def ovB (md : Region.Mode) (ops : Array Oper) (n : Nat) : OV → Nat → Array Bool → Bool
  | .done, f, listed => decide (f = 0) && (Region.ready md ops listed).isEmpty
  | .take i t, f, listed => decide (0 < f) && (Region.ready md ops listed).contains i && Region.free md ops listed i && waitB md ops n i && ovB md ops n t (f - 1) (listed.setIfInBounds i true)
  | .pure i t, f, listed => decide (0 < f) && (Region.ready md ops listed).contains i && Region.free md ops listed i && ovB md ops n t (f - 1) (listed.setIfInBounds i true)
  | .move i t, f, listed => decide (0 < f) && (Region.ready md ops listed == [i]) && ovB md ops n t (f - 1) (listed.setIfInBounds i true)
  | .both i j t1 t2, f, listed => decide (0 < f) && (Region.ready md ops listed == [i, j]) && ovB md ops n t1 (f - 1) (listed.setIfInBounds i true) && ovB md ops n t2 (f - 1) (listed.setIfInBounds j true)
def wpOV (P : Program) (ops : Array Oper) (Q : Exit → Act → World → Prop) (n : Nat) : OV → Act → World → Prop
  | .done, a, w => ∀ u, Grows w u → Q .normal a u
  | .take i t, a, w => ∃ o v, ops[i]? = some o ∧ YieldsG P ops w o v a ∧ wpOV P ops Q n t (a.put o.dst v) w
  | .pure i t, a, w => ∃ o v, ops[i]? = some o ∧ (∀ w', YieldsG P ops w' o v a) ∧ wpOV P ops Q n t (a.put o.dst v) w
  | .move i t, a, w => ∀ u, Grows w u → wpOp P ops Q i (fun a' u' => (i < n → Grows u u') ∧ wpOV P ops Q n t a' u') a u
  | .both i j t1 t2, a, w => (∀ u, Grows w u → wpOp P ops Q i (fun a' u' => (i < n → Grows u u') ∧ wpOV P ops Q n t1 a' u') a u) ∧ (∀ u, Grows w u → wpOp P ops Q j (fun a' u' => (j < n → Grows u u') ∧ wpOV P ops Q n t2 a' u') a u)

theorem wpV_of_OV (hs : Region.noSelect ops = true) (hQ : ∀ c a d v w, Q (.panic c) (Act.put a d v) w → Q (.panic c) a w) :
    ∀ (t : OV) (f : Nat) (listed : Array Bool) (a : Act) (w : World), ovB md ops n t f listed = true → wpOV P ops Q n t a w → wpV P md ops Q n f listed a w := by
  intro t
  induction t with
  | done =>
    intro f listed a w hB h
    simp only [ovB, Bool.and_eq_true, decide_eq_true_eq] at hB
    obtain ⟨rfl, hB⟩ := hB
    exact ⟨by simpa using hB, h⟩
  | take i t ih =>
    intro f listed a w hB h
    simp only [ovB, Bool.and_eq_true, decide_eq_true_eq] at hB
    obtain ⟨⟨⟨⟨h0, hr⟩, hf⟩, hw⟩, hB'⟩ := hB
    obtain ⟨o, v, ho, hy, h'⟩ := h
    obtain ⟨f, rfl⟩ : ∃ k, f = k + 1 := ⟨f - 1, by omega⟩
    have hr' : i ∈ Region.ready md ops listed := by simpa using hr
    exact wpV_first ho (Region.noSelect_spec hs) (fun c a w => hQ c a o.dst v w) (waitB_spec hw) f listed a w (Region.free_spec ho hf) hr' hy (ih _ _ _ w hB' h')
  | pure i t ih =>
    intro f listed a w hB h
    simp only [ovB, Bool.and_eq_true, decide_eq_true_eq] at hB
    obtain ⟨⟨⟨h0, hr⟩, hf⟩, hB'⟩ := hB
    obtain ⟨o, v, ho, hy, h'⟩ := h
    obtain ⟨f, rfl⟩ : ∃ k, f = k + 1 := ⟨f - 1, by omega⟩
    have hr' : i ∈ Region.ready md ops listed := by simpa using hr
    exact wpV_pure ho (Region.noSelect_spec hs) (fun c a w => hQ c a o.dst v w) f listed a w (Region.free_spec ho hf) hr' hy (ih _ _ _ w hB' h')
  | move i t ih =>
    intro f listed a w hB h
    simp only [ovB, Bool.and_eq_true, decide_eq_true_eq] at hB
    obtain ⟨⟨h0, hr⟩, hB'⟩ := hB
    obtain ⟨f, rfl⟩ : ∃ k, f = k + 1 := ⟨f - 1, by omega⟩
    have hr' : Region.ready md ops listed = [i] := by simpa using hr
    refine ⟨fun h0 => (by rw [hr'] at h0; cases h0), fun j hj => ?_⟩
    rw [hr'] at hj
    obtain rfl : j = i := by simpa using hj
    exact fun u hu => wpOp_mono (fun a' w' h' => ⟨h'.1, ih _ _ a' w' hB' h'.2⟩) (h u hu)
  | both i j t1 t2 ih1 ih2 =>
    intro f listed a w hB h
    simp only [ovB, Bool.and_eq_true, decide_eq_true_eq] at hB
    obtain ⟨⟨⟨h0, hr⟩, hB1⟩, hB2⟩ := hB
    obtain ⟨f, rfl⟩ : ∃ k, f = k + 1 := ⟨f - 1, by omega⟩
    have hr' : Region.ready md ops listed = [i, j] := by simpa using hr
    refine ⟨fun h0 => (by rw [hr'] at h0; cases h0), fun k hk => ?_⟩
    rw [hr'] at hk
    rcases List.mem_cons.1 hk with rfl | hk
    · exact fun u hu => wpOp_mono (fun a' w' h' => ⟨h'.1, ih1 _ _ a' w' hB1 h'.2⟩) (h.1 u hu)
    · obtain rfl : k = j := by simpa using hk
      exact fun u hu => wpOp_mono (fun a' w' h' => ⟨h'.1, ih2 _ _ a' w' hB2 h'.2⟩) (h.2 u hu)

/-- THE RULE. -/
theorem wp_region_ov {id : Nat} {a : Act} {w : World} {l : List Oper} (n : Nat) (t : OV) (hm : P.follows .mixedOrders = true) (hB : (Region.noSelect l.toArray && ovB .any l.toArray n t l.toArray.size (Array.replicate l.toArray.size false)) = true)
    (h : wpOV P l.toArray (NoPanic Q) n t a w.drew) : (Code.region id l.toArray true).wp P Q a w := by
  simp only [Bool.and_eq_true] at hB
  refine wp_region_noPanic (wp_region_any hm ?_)
  exact wpAny_of_V _ _ _ _ (wpV_of_OV (md := .any) (Q := NoPanic Q) hB.1 (fun c a d v w h => h) t _ _ a w.drew hB.2 h)
/-- A row of readers and makers, walked as Ord walks it, then the tree's. -/
def OV.ofS : List (Nat × Bool) → OV → OV
  | [], t => t
  | (i, true) :: s, t => .take i (OV.ofS s t)
  | (i, false) :: s, t => .move i (OV.ofS s t)
theorem ov_of_ord (t : OV) : ∀ (s : List (Nat × Bool)) (a : Act) (w : World), wpOrd P ops Q (fun a' u => wpOV P ops Q n t a' u) s a w → wpOV P ops Q n (OV.ofS s t) a w
  | [], a, w, h => by rw [ord_nil_eq] at h; exact h w (Grows.refl w)
  | (i, true) :: s, a, w, h => by
    rw [ord_take_eq] at h
    obtain ⟨o, v, ho, hy, h'⟩ := h
    exact ⟨o, v, ho, hy, ov_of_ord t s _ w h'⟩
  | (i, false) :: s, a, w, h => by
    rw [ord_move_eq] at h
    exact fun u hu => wpOp_mono (fun a' u' h' => ⟨fun _ => h'.1, ov_of_ord t s a' u' h'.2⟩) (h u hu)
theorem ov_both {i j : Nat} {t1 t2 : OV} {a : Act} {w : World} (h1 : ∀ u, Grows w u → wpOp P ops Q i (fun a' u' => (i < n → Grows u u') ∧ wpOV P ops Q n t1 a' u') a u)
    (h2 : ∀ u, Grows w u → wpOp P ops Q j (fun a' u' => (j < n → Grows u u') ∧ wpOV P ops Q n t2 a' u') a u) : wpOV P ops Q n (.both i j t1 t2) a w := ⟨h1, h2⟩
theorem ov_move {i : Nat} {t : OV} {a : Act} {w : World} (h : ∀ u, Grows w u → wpOp P ops Q i (fun a' u' => (i < n → Grows u u') ∧ wpOV P ops Q n t a' u') a u) : wpOV P ops Q n (.move i t) a w := h
theorem ov_pure {l : List Oper} {i : Nat} {t : OV} {a : Act} {w : World} (o : Oper) (v : Value) (ho : l[i]? = some o) (hw : Region.wanted o (yielded l.toArray a.tmps) = true)
    (hy : ∀ u, (execOp a.eval o).run P u = .ok (.value v) u) (h : wpOV P l.toArray Q n t (a.put o.dst v) w) : wpOV P l.toArray Q n (.pure i t) a w :=
  ⟨o, v, by simpa using ho, fun w' => .inl ⟨hw, fun u hu => by unfold Oper.quietAt; rw [hy u]; exact ⟨rfl, rfl⟩⟩, h⟩
theorem ov_done {a : Act} {w : World} (h : ∀ u, Grows w u → Q .normal a u) : wpOV P ops Q n .done a w := h
/-- One operation that changes the world. -/
theorem ov_op {l : List Oper} {i : Nat} {a : Act} {u : World} {R : Act → World → Prop} (o : Oper) (ho : l[i]? = some o) (hw : Region.wanted o (yielded l.toArray a.tmps) = true)
    (h : ∀ K : Act → World → Prop, Shut (∀ a' u', R a' u' → K a' u') → Oper.wp P o a u K Q) : wpOp P l.toArray Q i R a u := by
  refine wpOp_step (by simpa using ho) fun K hK => ?_
  rw [if_pos hw]
  exact h K fun a' w' hr => hK a' w' hr
end
end Go.Proofs.YtbcldknecdbemaaGreatDoor

/-
  A region that draws its order (of no program), walked by a plan: as Ord's order, but where two makers of memory may come up, both ways are walked.
-/
namespace Go.Proofs.YtbcldknecdbemaaGreatDoor
open Go.RowKit
set_option linter.unusedVariables false
set_option maxRecDepth 20000

/-- fin: what is left comes in the text's order; take i: taken as soon as it may come up; one i: nobody else may come up; two i p j q: i or j comes up, and nobody else. -/
inductive Plan where
  | fin : Plan
  | take : Nat → Plan → Plan
  | one : Nat → Plan → Plan
  | two : Nat → Plan → Nat → Plan → Plan
def Plan.len : Plan → Nat
  | .fin => 0
  | .take _ p => p.len + 1
  | .one _ p => p.len + 1
  | .two _ p _ _ => p.len + 1

section
variable {P : Program} {ops : Array Oper} {Q : Exit → Act → World → Prop} {md : Region.Mode}
def planB (md : Region.Mode) (ops : Array Oper) (n g : Nat) : Plan → Array Bool → Bool
  | .fin, listed => Region.seqB md ops g n listed
  | .take i p, listed => decide (i < n) && (Region.ready md ops listed).contains i && Region.free md ops listed i && planB md ops n g p (listed.setIfInBounds i true)
  | .one i p, listed => decide (i < n) && (Region.ready md ops listed == [i]) && planB md ops n g p (listed.setIfInBounds i true)
  | .two i p j q, listed => decide (i < n) && decide (j < n) && (Region.ready md ops listed == [i, j]) && (p.len == q.len) && planB md ops n g p (listed.setIfInBounds i true) && planB md ops n g q (listed.setIfInBounds j true)
def wpPlan (P : Program) (ops : Array Oper) (Q : Exit → Act → World → Prop) (E : Act → World → Prop) : Plan → Act → World → Prop
  | .fin, a, w => ∀ u, Grows w u → E a u
  | .take i p, a, w => ∃ o v, ops[i]? = some o ∧ YieldsG P ops w o v a ∧ wpPlan P ops Q E p (a.put o.dst v) w
  | .one i p, a, w => ∀ u, Grows w u → wpOp P ops Q i (fun a' u' => Grows u u' ∧ wpPlan P ops Q E p a' u') a u
  | .two i p j q, a, w => (∀ u, Grows w u → wpOp P ops Q i (fun a' u' => Grows u u' ∧ wpPlan P ops Q E p a' u') a u) ∧ (∀ u, Grows w u → wpOp P ops Q j (fun a' u' => Grows u u' ∧ wpPlan P ops Q E q a' u') a u)

theorem wpAnyU_of_plan {n g : Nat} {E : Act → World → Prop} (hs : Region.noSelect ops = true) (hQ : ∀ c a d v w, Q (.panic c) (Act.put a d v) w → Q (.panic c) a w)
    (hwait : ∀ i, i < n → ∀ listed, HeadInv md ops n listed → listed.getD i true = false → ∀ j ∈ Region.ready md ops listed, j < n) :
    ∀ (s : Plan) (listed : Array Bool) (a : Act) (w : World), HeadInv md ops n listed → planB md ops n g s listed = true → wpPlan P ops Q E s a w →
      wpAnyU P md ops Q n (fun listed' a' w' => Region.seqB md ops g n listed' = true ∧ ∀ u, Grows w' u → E a' u) s.len listed a w
  | .fin, listed, a, w, inv, hB, h => ⟨hB, h⟩
  | .take i s, listed, a, w, inv, hB, h => by
    simp only [planB, Bool.and_eq_true, decide_eq_true_eq] at hB
    obtain ⟨⟨⟨hin, hr⟩, hf⟩, hB'⟩ := hB
    obtain ⟨o, v, ho, hy, h'⟩ := h
    have hr' : i ∈ Region.ready md ops listed := by simpa using hr
    exact wpAnyU_first ho (Region.noSelect_spec hs) (fun c a w => hQ c a o.dst v w) hin (hwait i hin) (fun _ _ _ _ hg hl => ⟨hl.1, fun u hu => hl.2 u (Grows.trans hg hu)⟩) (fun _ _ _ hl => seqB_ready hl.1)
      s.len listed a w inv (Region.free_spec ho hf) hr' hy (wpAnyU_of_plan hs hQ hwait s _ _ w (inv.set hr' hin) hB' h')
  | .one i s, listed, a, w, inv, hB, h => by
    simp only [planB, Bool.and_eq_true, decide_eq_true_eq] at hB
    obtain ⟨⟨hin, hr⟩, hB'⟩ := hB
    have hr' : Region.ready md ops listed = [i] := by simpa using hr
    have hm : i ∈ Region.ready md ops listed := by rw [hr']; simp
    refine ⟨fun h0 => (by rw [hr'] at h0; cases h0), fun j hj => ?_⟩
    rw [hr'] at hj
    have hji : j = i := by simpa using hj
    subst hji
    exact ⟨hin, fun u hu => wpOp_mono (fun a' w' h' => ⟨h'.1, wpAnyU_of_plan hs hQ hwait s _ a' w' (inv.set hm hin) hB' h'.2⟩) (h u hu)⟩
  | .two i s j t, listed, a, w, inv, hB, h => by
    simp only [planB, Bool.and_eq_true, decide_eq_true_eq, beq_iff_eq] at hB
    obtain ⟨⟨⟨⟨⟨hin, hjn⟩, hr'⟩, hlen⟩, hB1⟩, hB2⟩ := hB
    have hmi : i ∈ Region.ready md ops listed := by rw [hr']; simp
    have hmj : j ∈ Region.ready md ops listed := by rw [hr']; simp
    refine ⟨fun h0 => (by rw [hr'] at h0; cases h0), fun k hk => ?_⟩
    rw [hr'] at hk
    have hk2 : k = i ∨ k = j := by simpa using hk
    rcases hk2 with rfl | rfl
    · exact ⟨hin, fun u hu => wpOp_mono (fun a' w' h' => ⟨h'.1, wpAnyU_of_plan hs hQ hwait s _ a' w' (inv.set hmi hin) hB1 h'.2⟩) (h.1 u hu)⟩
    · refine ⟨hjn, fun u hu => wpOp_mono (fun a' w' h' => ⟨h'.1, ?_⟩) (h.2 u hu)⟩
      have := wpAnyU_of_plan (E := E) hs hQ hwait t _ a' w' (inv.set hmj hjn) hB2 h'.2
      rw [← hlen] at this
      exact this

def planWholeB (ops : Array Oper) (n : Nat) (s : Plan) : Bool :=
  Region.noSelect ops && decide (n ≤ ops.size) && (decide (n = ops.size) || (Region.sinkB .any ops n && Region.chainB .any ops n)) && (s.len == n) && planB .any ops n (ops.size - n) s (Array.replicate ops.size false)

/-- THE RULE. -/
theorem wp_region_plan {id : Nat} {a : Act} {w : World} {l : List Oper} (n : Nat) (s : Plan) (hm : P.follows .mixedOrders = true) (hB : planWholeB l.toArray n s = true)
    (h : wpPlan P l.toArray (NoPanic Q) (fun a' u => wpList P l.toArray (NoPanic Q) (l.drop n) a' u) s a w.drew) : (Code.region id l.toArray true).wp P Q a w := by
  simp only [planWholeB, Bool.and_eq_true, decide_eq_true_eq, Bool.or_eq_true, beq_iff_eq] at hB
  obtain ⟨⟨⟨⟨hsel, hn⟩, hc⟩, hl⟩, hord⟩ := hB
  have hdl : (l.drop n).length = l.toArray.size - n := by simp
  have inv0 : HeadInv .any l.toArray n (Array.replicate l.toArray.size false) :=
    ⟨by simp, fun j oj _ hl => (by rw [getD_replicate_false] at hl; cases hl), fun t _ ht => getD_in (by simpa using ht) (getD_replicate_false _ _)⟩
  have hwait : ∀ i, i < n → ∀ listed, HeadInv .any l.toArray n listed → listed.getD i true = false → ∀ j ∈ Region.ready .any l.toArray listed, j < n := fun i hi listed inv hun j hj => by
    rcases hc with hc | ⟨hs, hch⟩
    · obtain ⟨_, oj, hoj, _⟩ := mem_ready.1 hj
      have := (Array.getElem?_eq_some_iff.1 hoj).1
      omega
    · rcases Nat.lt_or_ge j n with h | h
      · exact h
      · have hjs : j < l.toArray.size := by
          obtain ⟨_, oj, hoj, _⟩ := mem_ready.1 hj
          exact (Array.getElem?_eq_some_iff.1 hoj).1
        exact absurd hj (tail_waits hs hch (by omega) inv _ i rfl hi hun j h)
  refine wp_region_noPanic (wp_region_any hm ?_)
  have H := wpAnyU_of_plan (md := .any) (g := l.toArray.size - n) (Q := NoPanic Q) hsel (fun c a d v w h => h) hwait s _ a w.drew inv0 hord h
  have := wpAny_of_U (Q := NoPanic Q) (g := l.toArray.size - n) (fun listed a' w' hL => by
    have := wpAny_of_seq (md := .any) (Q' := NoPanic Q) (l.drop n) n listed a' w' (fun j => by simp [List.getElem?_drop]) (by rw [hdl]; exact hL.1) (hL.2 w' (Grows.refl _))
    rwa [hdl] at this) _ _ _ _ H
  rw [hl, show n + (l.toArray.size - n) = l.toArray.size by omega] at this
  exact this

theorem plan_take {l : List Oper} {E : Act → World → Prop} {w0 w : World} {i : Nat} {s : Plan} {a : Act} (h0 : Grows w0 w) (o : Oper) (v : Value) (ho : l[i]? = some o)
    (hw : Region.wanted o (yielded l.toArray a.tmps) = true) (hy : ∀ u, Grows w0 u → Grows w u → (execOp a.eval o).run P u = .ok (.value v) u)
    (h : wpPlan P l.toArray Q E s (a.put o.dst v) w) : wpPlan P l.toArray Q E (.take i s) a w :=
  ⟨o, v, by simpa using ho, .inl ⟨hw, fun u hu => by unfold Oper.quietAt; rw [hy u (Grows.trans h0 hu) hu]; exact ⟨rfl, rfl⟩⟩, h⟩
/-- A call that yields one value, and lets the world but grow. -/
theorem plan_call {l : List Oper} {E : Act → World → Prop} {w0 w : World} {i : Nat} {s : Plan} {a : Act} (h0 : Grows w0 w) (o : Oper) (v : Value) (ho : l[i]? = some o)
    (hw : Region.wanted o (yielded l.toArray a.tmps) = true) (hy : ∀ u, Grows w0 u → Grows w u → Oper.quietUpon P (Grows u) u v ((execOp a.eval o).run P u))
    (h : wpPlan P l.toArray Q E s (a.put o.dst v) w) : wpPlan P l.toArray Q E (.take i s) a w :=
  ⟨o, v, by simpa using ho, .inl ⟨hw, fun u hu => hy u (Grows.trans h0 hu) hu⟩, h⟩
theorem plan_load {l : List Oper} {E : Act → World → Prop} {w0 w : World} {i : Nat} {s : Plan} {a : Act} (h0 : Grows w0 w) (o : Oper) (v : Value) (ho : l[i]? = some o)
    (hw : Region.wanted o (yielded l.toArray a.tmps) = true) (ty : TypeId) (x : Operand) (hop : o.op = .load ty x) (p : Option Addr) (hx : a.eval x = .pointer p)
    (hy : ∀ u, Grows w0 u → (Instr.loadAt ty (.pointer p)).run P u = .ok v u)
    (h : wpPlan P l.toArray Q E s (a.put o.dst v) w) : wpPlan P l.toArray Q E (.take i s) a w :=
  plan_take h0 o v ho hw (fun u hu _ => exec_load hop hx (hy u hu)) h
theorem plan_skip {l : List Oper} {E : Act → World → Prop} {w : World} {i : Nat} {s : Plan} {a : Act} (o : Oper) (ho : l[i]? = some o)
    (hw : Region.wanted o (yielded l.toArray a.tmps) = false) (h : wpPlan P l.toArray Q E s (a.put o.dst undef) w) : wpPlan P l.toArray Q E (.take i s) a w :=
  ⟨o, undef, by simpa using ho, .inr ⟨hw, rfl⟩, h⟩
theorem plan_move {l : List Oper} {E : Act → World → Prop} {w : World} {i : Nat} {s : Plan} {a : Act} (o : Oper) (ho : l[i]? = some o)
    (hw : Region.wanted o (yielded l.toArray a.tmps) = true)
    (h : ∀ u, Grows w u → ∀ K : Act → World → Prop, Shut (∀ a' u', Grows u u' → wpPlan P l.toArray Q E s a' u' → K a' u') → Oper.wp P o a u K Q) : wpPlan P l.toArray Q E (.one i s) a w := by
  intro u hu
  refine wpOp_step (by simpa using ho) fun K hK => ?_
  rw [if_pos hw]
  exact h u hu K fun a' w' hg hs => hK a' w' ⟨hg, hs⟩
theorem plan_pass {l : List Oper} {E : Act → World → Prop} {w : World} {i : Nat} {s : Plan} {a : Act} (o : Oper) (ho : l[i]? = some o)
    (hw : Region.wanted o (yielded l.toArray a.tmps) = false) (h : ∀ u, Grows w u → wpPlan P l.toArray Q E s (a.put o.dst undef) u) : wpPlan P l.toArray Q E (.one i s) a w := by
  intro u hu
  refine wpOp_step (by simpa using ho) fun K hK => ?_
  rw [if_neg (by rw [hw]; exact Bool.false_ne_true)]
  exact hK _ _ ⟨Grows.refl _, h u hu⟩
theorem plan_done {l : List Oper} {E : Act → World → Prop} {w : World} {a : Act} (h : ∀ u, Grows w u → E a u) : wpPlan P l.toArray Q E .fin a w := h
/-- Two makers of memory may come up. -/
theorem plan_two {l : List Oper} {E : Act → World → Prop} {w : World} {i j : Nat} {s t : Plan} {a : Act} (o o' : Oper) (ho : l[i]? = some o) (ho' : l[j]? = some o')
    (hw : Region.wanted o (yielded l.toArray a.tmps) = true) (hw' : Region.wanted o' (yielded l.toArray a.tmps) = true)
    (h : ∀ u, Grows w u → ∀ K : Act → World → Prop, Shut (∀ a' u', Grows u u' → wpPlan P l.toArray Q E s a' u' → K a' u') → Oper.wp P o a u K Q)
    (h' : ∀ u, Grows w u → ∀ K : Act → World → Prop, Shut (∀ a' u', Grows u u' → wpPlan P l.toArray Q E t a' u' → K a' u') → Oper.wp P o' a u K Q) : wpPlan P l.toArray Q E (.two i s j t) a w := by
  refine ⟨fun u hu => wpOp_step (by simpa using ho) fun K hK => ?_, fun u hu => wpOp_step (by simpa using ho') fun K hK => ?_⟩
  · rw [if_pos hw]
    exact h u hu K fun a' w' hg hs => hK a' w' ⟨hg, hs⟩
  · rw [if_pos hw']
    exact h' u hu K fun a' w' hg hs => hK a' w' ⟨hg, hs⟩
end
attribute [irreducible] wpPlan
end Go.Proofs.YtbcldknecdbemaaGreatDoor

/-
  A region that draws its order (of no program), walked by a plan (as Pln), in which what comes up may turn blocks of S (as Oru).
-/
namespace Go.Proofs.YtbcldknecdbemaaGreatDoor
open Go.RowKit
set_option linter.unusedVariables false
set_option maxRecDepth 20000

section
variable {P : Program} {ops : Array Oper} {Q : Exit → Act → World → Prop} {md : Region.Mode} {S : Nat → Prop}
def wpPlanC (S : Nat → Prop) (P : Program) (ops : Array Oper) (Q : Exit → Act → World → Prop) (E : Act → World → Prop) : Plan → Act → World → Prop
  | .fin, a, w => ∀ u, Grows w u → E a u
  | .take i p, a, w => ∃ o v, ops[i]? = some o ∧ YieldsC S P ops w o v a ∧ wpPlanC S P ops Q E p (a.put o.dst v) w
  | .one i p, a, w => ∀ u, Grows w u → wpOp P ops Q i (fun a' u' => Turns S u u' ∧ wpPlanC S P ops Q E p a' u') a u
  | .two i p j q, a, w => (∀ u, Grows w u → wpOp P ops Q i (fun a' u' => Turns S u u' ∧ wpPlanC S P ops Q E p a' u') a u) ∧ (∀ u, Grows w u → wpOp P ops Q j (fun a' u' => Turns S u u' ∧ wpPlanC S P ops Q E q a' u') a u)

theorem wpAnyC_of_plan {n g : Nat} {E : Act → World → Prop} (hs : Region.noSelect ops = true) (hQ : ∀ c a d v w, Q (.panic c) (Act.put a d v) w → Q (.panic c) a w)
    (hwait : ∀ i, i < n → ∀ listed, HeadInv md ops n listed → listed.getD i true = false → ∀ j ∈ Region.ready md ops listed, j < n) :
    ∀ (s : Plan) (listed : Array Bool) (a : Act) (w : World), HeadInv md ops n listed → planB md ops n g s listed = true → wpPlanC S P ops Q E s a w →
      wpAnyC S P md ops Q n (fun listed' a' w' => Region.seqB md ops g n listed' = true ∧ ∀ u, Grows w' u → E a' u) s.len listed a w
  | .fin, listed, a, w, inv, hB, h => ⟨hB, h⟩
  | .take i s, listed, a, w, inv, hB, h => by
    simp only [planB, Bool.and_eq_true, decide_eq_true_eq] at hB
    obtain ⟨⟨⟨hin, hr⟩, hf⟩, hB'⟩ := hB
    obtain ⟨o, v, ho, hy, h'⟩ := h
    have hr' : i ∈ Region.ready md ops listed := by simpa using hr
    exact wpAnyC_first ho (Region.noSelect_spec hs) (fun c a w => hQ c a o.dst v w) hin (hwait i hin) (fun _ _ _ _ hg hl => ⟨hl.1, fun u hu => hl.2 u (Grows.trans hg hu)⟩) (fun _ _ _ hl => seqB_ready hl.1)
      s.len listed a w inv (Region.free_spec ho hf) hr' hy (wpAnyC_of_plan hs hQ hwait s _ _ w (inv.set hr' hin) hB' h')
  | .one i s, listed, a, w, inv, hB, h => by
    simp only [planB, Bool.and_eq_true, decide_eq_true_eq] at hB
    obtain ⟨⟨hin, hr⟩, hB'⟩ := hB
    have hr' : Region.ready md ops listed = [i] := by simpa using hr
    have hm : i ∈ Region.ready md ops listed := by rw [hr']; simp
    refine ⟨fun h0 => (by rw [hr'] at h0; cases h0), fun j hj => ?_⟩
    rw [hr'] at hj
    have hji : j = i := by simpa using hj
    subst hji
    exact ⟨hin, fun u hu => wpOp_mono (fun a' w' h' => ⟨h'.1, wpAnyC_of_plan hs hQ hwait s _ a' w' (inv.set hm hin) hB' h'.2⟩) (h u hu)⟩
  | .two i s j t, listed, a, w, inv, hB, h => by
    simp only [planB, Bool.and_eq_true, decide_eq_true_eq, beq_iff_eq] at hB
    obtain ⟨⟨⟨⟨⟨hin, hjn⟩, hr'⟩, hlen⟩, hB1⟩, hB2⟩ := hB
    have hmi : i ∈ Region.ready md ops listed := by rw [hr']; simp
    have hmj : j ∈ Region.ready md ops listed := by rw [hr']; simp
    refine ⟨fun h0 => (by rw [hr'] at h0; cases h0), fun k hk => ?_⟩
    rw [hr'] at hk
    have hk2 : k = i ∨ k = j := by simpa using hk
    rcases hk2 with rfl | rfl
    · exact ⟨hin, fun u hu => wpOp_mono (fun a' w' h' => ⟨h'.1, wpAnyC_of_plan hs hQ hwait s _ a' w' (inv.set hmi hin) hB1 h'.2⟩) (h.1 u hu)⟩
    · refine ⟨hjn, fun u hu => wpOp_mono (fun a' w' h' => ⟨h'.1, ?_⟩) (h.2 u hu)⟩
      have := wpAnyC_of_plan (E := E) hs hQ hwait t _ a' w' (inv.set hmj hjn) hB2 h'.2
      rw [← hlen] at this
      exact this

/-- THE RULE. -/
theorem wp_region_planc {id : Nat} {a : Act} {w : World} {l : List Oper} (n : Nat) (s : Plan) (hm : P.follows .mixedOrders = true) (hB : planWholeB l.toArray n s = true)
    (h : wpPlanC S P l.toArray (NoPanic Q) (fun a' u => wpList P l.toArray (NoPanic Q) (l.drop n) a' u) s a w.drew) : (Code.region id l.toArray true).wp P Q a w := by
  simp only [planWholeB, Bool.and_eq_true, decide_eq_true_eq, Bool.or_eq_true, beq_iff_eq] at hB
  obtain ⟨⟨⟨⟨hsel, hn⟩, hc⟩, hl⟩, hord⟩ := hB
  have hdl : (l.drop n).length = l.toArray.size - n := by simp
  have inv0 : HeadInv .any l.toArray n (Array.replicate l.toArray.size false) :=
    ⟨by simp, fun j oj _ hl => (by rw [getD_replicate_false] at hl; cases hl), fun t _ ht => getD_in (by simpa using ht) (getD_replicate_false _ _)⟩
  have hwait : ∀ i, i < n → ∀ listed, HeadInv .any l.toArray n listed → listed.getD i true = false → ∀ j ∈ Region.ready .any l.toArray listed, j < n := fun i hi listed inv hun j hj => by
    rcases hc with hc | ⟨hs, hch⟩
    · obtain ⟨_, oj, hoj, _⟩ := mem_ready.1 hj
      have := (Array.getElem?_eq_some_iff.1 hoj).1
      omega
    · rcases Nat.lt_or_ge j n with h | h
      · exact h
      · have hjs : j < l.toArray.size := by
          obtain ⟨_, oj, hoj, _⟩ := mem_ready.1 hj
          exact (Array.getElem?_eq_some_iff.1 hoj).1
        exact absurd hj (tail_waits hs hch (by omega) inv _ i rfl hi hun j h)
  refine wp_region_noPanic (wp_region_any hm ?_)
  have H := wpAnyC_of_plan (md := .any) (g := l.toArray.size - n) (Q := NoPanic Q) hsel (fun c a d v w h => h) hwait s _ a w.drew inv0 hord h
  have := wpAny_of_C (Q := NoPanic Q) (g := l.toArray.size - n) (fun listed a' w' hL => by
    have := wpAny_of_seq (md := .any) (Q' := NoPanic Q) (l.drop n) n listed a' w' (fun j => by simp [List.getElem?_drop]) (by rw [hdl]; exact hL.1) (hL.2 w' (Grows.refl _))
    rwa [hdl] at this) _ _ _ _ H
  rw [hl, show n + (l.toArray.size - n) = l.toArray.size by omega] at this
  exact this

theorem planc_take {l : List Oper} {E : Act → World → Prop} {w0 w : World} {i : Nat} {s : Plan} {a : Act} (h0 : Turns S w0 w) (o : Oper) (v : Value) (ho : l[i]? = some o)
    (hw : Region.wanted o (yielded l.toArray a.tmps) = true) (hy : ∀ u, Turns S w0 u → Turns S w u → (execOp a.eval o).run P u = .ok (.value v) u)
    (h : wpPlanC S P l.toArray Q E s (a.put o.dst v) w) : wpPlanC S P l.toArray Q E (.take i s) a w :=
  ⟨o, v, by simpa using ho, .inl ⟨hw, fun u hu => by unfold Oper.quietAt; rw [hy u (Turns.trans h0 hu) hu]; exact ⟨rfl, rfl⟩⟩, h⟩
/-- A call that yields one value, and lets the world but grow. -/
theorem planc_call {l : List Oper} {E : Act → World → Prop} {w0 w : World} {i : Nat} {s : Plan} {a : Act} (h0 : Turns S w0 w) (o : Oper) (v : Value) (ho : l[i]? = some o)
    (hw : Region.wanted o (yielded l.toArray a.tmps) = true) (hy : ∀ u, Turns S w0 u → Turns S w u → Oper.quietUpon P (Grows u) u v ((execOp a.eval o).run P u))
    (h : wpPlanC S P l.toArray Q E s (a.put o.dst v) w) : wpPlanC S P l.toArray Q E (.take i s) a w :=
  ⟨o, v, by simpa using ho, .inl ⟨hw, fun u hu => hy u (Turns.trans h0 hu) hu⟩, h⟩
theorem planc_load {l : List Oper} {E : Act → World → Prop} {w0 w : World} {i : Nat} {s : Plan} {a : Act} (h0 : Turns S w0 w) (o : Oper) (v : Value) (ho : l[i]? = some o)
    (hw : Region.wanted o (yielded l.toArray a.tmps) = true) (ty : TypeId) (x : Operand) (hop : o.op = .load ty x) (p : Option Addr) (hx : a.eval x = .pointer p)
    (hy : ∀ u, Turns S w0 u → (Instr.loadAt ty (.pointer p)).run P u = .ok v u)
    (h : wpPlanC S P l.toArray Q E s (a.put o.dst v) w) : wpPlanC S P l.toArray Q E (.take i s) a w :=
  planc_take h0 o v ho hw (fun u hu _ => exec_load hop hx (hy u hu)) h
theorem planc_skip {l : List Oper} {E : Act → World → Prop} {w : World} {i : Nat} {s : Plan} {a : Act} (o : Oper) (ho : l[i]? = some o)
    (hw : Region.wanted o (yielded l.toArray a.tmps) = false) (h : wpPlanC S P l.toArray Q E s (a.put o.dst undef) w) : wpPlanC S P l.toArray Q E (.take i s) a w :=
  ⟨o, undef, by simpa using ho, .inr ⟨hw, rfl⟩, h⟩
theorem planc_move {l : List Oper} {E : Act → World → Prop} {w : World} {i : Nat} {s : Plan} {a : Act} (o : Oper) (ho : l[i]? = some o)
    (hw : Region.wanted o (yielded l.toArray a.tmps) = true)
    (h : ∀ u, Grows w u → ∀ K : Act → World → Prop, Shut (∀ a' u', Turns S u u' → wpPlanC S P l.toArray Q E s a' u' → K a' u') → Oper.wp P o a u K Q) : wpPlanC S P l.toArray Q E (.one i s) a w := by
  intro u hu
  refine wpOp_step (by simpa using ho) fun K hK => ?_
  rw [if_pos hw]
  exact h u hu K fun a' w' hg hs => hK a' w' ⟨hg, hs⟩
theorem planc_pass {l : List Oper} {E : Act → World → Prop} {w : World} {i : Nat} {s : Plan} {a : Act} (o : Oper) (ho : l[i]? = some o)
    (hw : Region.wanted o (yielded l.toArray a.tmps) = false) (h : ∀ u, Grows w u → wpPlanC S P l.toArray Q E s (a.put o.dst undef) u) : wpPlanC S P l.toArray Q E (.one i s) a w := by
  intro u hu
  refine wpOp_step (by simpa using ho) fun K hK => ?_
  rw [if_neg (by rw [hw]; exact Bool.false_ne_true)]
  exact hK _ _ ⟨Turns.refl S _, h u hu⟩
theorem planc_done {l : List Oper} {E : Act → World → Prop} {w : World} {a : Act} (h : ∀ u, Grows w u → E a u) : wpPlanC S P l.toArray Q E .fin a w := h

/-- A value built of parts, as one operation of a region that draws its order. -/
theorem planc_build {l : List Oper} {E : Act → World → Prop} {w0 w : World} {i : Nat} {s : Plan} {a : Act} (h0 : Turns S w0 w) (o : Oper) (v : Value) (ho : l[i]? = some o)
    (hw : Region.wanted o (yielded l.toArray a.tmps) = true) (t : TypeId) (parts : Array (Nat × Operand)) (hop : o.op = .build t parts) (ps : Array (Nat × Value)) (hy : ∀ u, (Instr.build t ps).run P u = .ok v u) (hp : (parts.map fun (i, x) => (i, a.eval x)) = ps)
    (h : wpPlanC S P l.toArray Q E s (a.put o.dst v) w) : wpPlanC S P l.toArray Q E (.take i s) a w :=
  planc_take h0 o v ho hw (fun u hu _ => by
    unfold execOp
    simp only [hop, hp, Sem.run_bind, hy u, Result.andThen_ok, Sem.run_pure]) h
/-- A slice built of parts. -/
theorem planc_bslice {l : List Oper} {E : Act → World → Prop} {w : World} {i : Nat} {s : Plan} {a : Act} (o : Oper) (ho : l[i]? = some o)
    (hw : Region.wanted o (yielded l.toArray a.tmps) = true) (t : TypeId) (len : Nat) (parts : Array (Nat × Operand)) (hop : o.op = .buildSlice t len parts) (ps : Array (Nat × Value)) (cs : List Value) (e : TypeId)
    (hy : ∀ u, (Instr.buildSlice t len ps).run P u = .ok (.slice (some ⟨u.heap.size, 0, none⟩) len len) (u.alloc (.cells cs.toArray e))) (hp : (parts.map fun (i, x) => (i, a.eval x)) = ps)
    (h : ∀ u, Grows w u → wpPlanC S P l.toArray Q E s (a.put o.dst (.slice (some ⟨u.heap.size, 0, none⟩) len len)) (u.alloc (.cells cs.toArray e))) : wpPlanC S P l.toArray Q E (.one i s) a w :=
  planc_move o ho hw (fun u hu K hK => by
    unfold Oper.wp execOp
    simp only [hop, hp, Sem.run_bind, hy u, Result.andThen_ok, Sem.run_pure]
    exact hK.out _ _ (Turns.of_grows ((Grows.refl u).alloc (Nat.le_refl _) _)) (h u hu))
/-- Two makers of memory may come up. -/
theorem planc_two {l : List Oper} {E : Act → World → Prop} {w : World} {i j : Nat} {s t : Plan} {a : Act} (o o' : Oper) (ho : l[i]? = some o) (ho' : l[j]? = some o')
    (hw : Region.wanted o (yielded l.toArray a.tmps) = true) (hw' : Region.wanted o' (yielded l.toArray a.tmps) = true)
    (h : ∀ u, Grows w u → ∀ K : Act → World → Prop, Shut (∀ a' u', Turns S u u' → wpPlanC S P l.toArray Q E s a' u' → K a' u') → Oper.wp P o a u K Q)
    (h' : ∀ u, Grows w u → ∀ K : Act → World → Prop, Shut (∀ a' u', Turns S u u' → wpPlanC S P l.toArray Q E t a' u' → K a' u') → Oper.wp P o' a u K Q) : wpPlanC S P l.toArray Q E (.two i s j t) a w := by
  refine ⟨fun u hu => wpOp_step (by simpa using ho) fun K hK => ?_, fun u hu => wpOp_step (by simpa using ho') fun K hK => ?_⟩
  · rw [if_pos hw]
    exact h u hu K fun a' w' hg hs => hK a' w' ⟨hg, hs⟩
  · rw [if_pos hw']
    exact h' u hu K fun a' w' hg hs => hK a' w' ⟨hg, hs⟩
/-- A store of a whole row in place of another. -/
theorem planc_storeT {l : List Oper} {E : Act → World → Prop} {w : World} {i : Nat} {s : Plan} {a : Act} (o : Oper) (ho : l[i]? = some o)
    (hw : Region.wanted o (yielded l.toArray a.tmps) = true) (ty : TypeId) (x y : Operand) (hop : o.op = .store ty x y)
    (b : Nat) (vs vs' : List Value) (n : Nat) (hx : a.eval x = .pointer (some ⟨b, 0, none⟩)) (hy : a.eval y = .agg vs'.toArray) (hb : Has w b vs) (hl : vs.length = n) (hl' : vs'.length = n) (hi : (P.info? ty).map (·.size) = some n)
    (h1 : ∀ v ∈ vs', v.oneCell' = true) (hS : S b) (h : ∀ u w', Grows w u → Has w' b vs' → Turns (fun k => k = b) u w' → wpPlanC S P l.toArray Q E s (a.put o.dst undef) w') : wpPlanC S P l.toArray Q E (.one i s) a w := by
  have hz : vs'.toArray.size = n := by simp [hl']
  refine planc_move o ho hw (fun u hu K hK => ?_)
  have hbu := hb.later hu
  have ht := turns_cells b vs' 0 u
  exact wp_store_mid ty x y hop b 0 vs'.toArray hx hy (by rw [hz, ← hl]; exact hbu.there) (by rw [hz]; exact hi) (all_oneCell_toArray h1) (hK.out _ _ (ht.mono fun k _ e => by subst e; exact hS) (h u _ hu (hbu.put_ (by rw [hl, hl'])) ht))
end
attribute [irreducible] wpPlanC
end Go.Proofs.YtbcldknecdbemaaGreatDoor
