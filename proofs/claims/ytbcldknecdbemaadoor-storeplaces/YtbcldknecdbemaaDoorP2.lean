/-
  Contracts, joined (Ord Cel CrcM CrcA Mak Cut CrcC).
-/
import Derived.Test.YtbcldknecdbemaaDoorP1
import Derived.StillTail
import Derived.Deep.Quiet
import Derived.Test.YtbcldknecdbemaaDoorRows
import Derived.Laws.BitsAllLaws
import Derived.Outline
import Derived.Lib.Hide
import Derived.BigQuiet
import Derived.Laws.CopyOwn
import Derived.Deep.OwnRows

/-
  A region that draws its order, walked once, in one order of ours, from every world that has grown from the one at hand: readers and calls that yield one value (and let the world but grow) are taken as soon as they may come up; a maker of memory where nothing else may come up; a tail (a store, an append) that waits for all the others last. (Of no program.)
-/
namespace Go.Proofs.YtbcldknecdbemaaDoor
open Go.RowKit
set_option linter.unusedVariables false
set_option maxRecDepth 20000

section
variable {P : Program} {ops : Array Oper} {Q : Exit → Act → World → Prop} {md : Region.Mode}

/-- What an operation leaves is a state that parts from 'a' in its own slot (and in what is deferred) alone. -/
theorem wpOp_kept {j : Nat} {oj : Oper} (hj : ops[j]? = some oj) {Y : Act → Prop} {K : Act → World → Prop} {a : Act} {w : World}
    (hy : ∀ ds u, Y (Act.put { a with defers := ds } oj.dst u)) (h : wpOp P ops Q j K a w) : wpOp P ops Q j (fun a' w' => Y a' ∧ K a' w') a w := by
  have hy0 : ∀ u, Y (Act.put a oj.dst u) := fun u => hy a.defers u
  unfold wpOp at *
  simp only [hj] at *
  split
  · rename_i hw
    rw [if_pos hw] at h
    rcases h with h | h
    · refine .inl ?_
      unfold Oper.wp at *
      generalize (execOp a.eval oj).run P w = r at *
      match r, h with
      | .ok (.value v) w', h => exact ⟨hy0 v, h⟩
      | .ok .skip w', h => exact ⟨hy0 _, h⟩
      | .ok (.defer d) w', h => exact ⟨hy _ _, h⟩
      | .ok (.row row args) w', h => exact Rows.mono h fun v _ hk => ⟨hy0 v, hk⟩
      | .halt (.panic v) w', h => exact h
      | .ok (.enter f args) w', h =>
        refine Calls.mono h fun e w'' he => ?_
        match e, he with
        | .returned v, he => exact ⟨hy0 v, he⟩
        | .panicked c, he => exact he
        | .outgrown, he => exact he
    · exact .inr h
  · rename_i hw
    rw [if_neg hw] at h
    exact ⟨hy0 _, h⟩

/-- In every world that has grown from w the operation yields v, and the world but grows. -/
def YieldsG (P : Program) (ops : Array Oper) (w : World) (o : Oper) (v : Value) (a : Act) : Prop :=
  (Region.wanted o (yielded ops a.tmps) = true ∧ ∀ u, Grows w u → Oper.quietAt P o a (Grows u) u v) ∨ (Region.wanted o (yielded ops a.tmps) = false ∧ v = undef)

theorem YieldsG.same {w : World} {o : Oper} {v : Value} {a a' : Act} (hy : YieldsG P ops w o v a) (he : execOp a'.eval o = execOp a.eval o)
    (hw : Region.wanted o (yielded ops a'.tmps) = Region.wanted o (yielded ops a.tmps)) : YieldsG P ops w o v a' := by
  unfold YieldsG Oper.quietAt at *
  rw [he, hw]
  exact hy
theorem YieldsG.later {w w' : World} {o : Oper} {v : Value} {a : Act} (hy : YieldsG P ops w o v a) (h : Grows w w') : YieldsG P ops w' o v a :=
  hy.imp (fun ⟨h1, h2⟩ => ⟨h1, fun u hu => h2 u (Grows.trans h hu)⟩) id

theorem YieldsG.wpOp {w : World} {i : Nat} {o : Oper} {v : Value} {a : Act} (hi : ops[i]? = some o) (hy : YieldsG P ops w o v a) {K : Act → World → Prop} {u : World} (hu : Grows w u)
    (h : ∀ u', Grows u u' → K (a.put o.dst v) u') : wpOp P ops Q i K a u := by
  unfold Go.wpOp
  simp only [hi]
  rcases hy with ⟨hw, hv⟩ | ⟨hw, rfl⟩
  · rw [if_pos hw]
    refine .inl ?_
    have h1 := hv u hu
    unfold Oper.quietAt at h1
    unfold Oper.wp
    generalize (execOp a.eval o).run P u = r at *
    match r, h1 with
    | .ok (.value x) w', h1 => obtain ⟨rfl, rfl⟩ := h1; exact h _ (Grows.refl _)
    | .ok .skip w', h1 => obtain ⟨rfl, rfl⟩ := h1; exact h _ (Grows.refl _)
    | .ok (.enter f args) w', h1 =>
      obtain ⟨rfl, hc⟩ := h1
      exact Calls.mono hc fun e w'' ⟨he, hg⟩ => by subst he; exact h _ hg
  · rw [if_neg (by rw [hw]; exact Bool.false_ne_true)]
    exact h _ (Grows.refl _)

/-- Another operation, apart from it. -/
theorem wpOp_beside {j : Nat} {oi oj : Oper} {v : Value} {w : World} (hj : ops[j]? = some oj) (hap : oi.apart ops oj = true)
    (hsi : ∀ cs b, oi.op ≠ .select cs b) (hsj : ∀ cs b, oj.op ≠ .select cs b)
    (hQ : ∀ c a w, Q (.panic c) (a.put oi.dst v) w → Q (.panic c) a w) {K : Act → World → Prop} {a : Act} {u : World}
    (hy : YieldsG P ops w oi v a) (h : wpOp P ops Q j K (a.put oi.dst v) u) :
    wpOp P ops Q j (fun a' u' => YieldsG P ops w oi v a' ∧ K (a'.put oi.dst v) u') a u := by
  have h1 := wpOp_putIf (S := fun _ => False) hj hap hsi hsj hQ (hy.imp (fun ⟨h1, _⟩ => ⟨h1, fun _ h => h.elim⟩) id) h
  obtain ⟨_, _, h3⟩ := Oper.apart_spec hap
  refine wpOp_mono (fun a' u' h2 => ⟨h2.1, h2.2.2⟩) (wpOp_kept (Y := fun a' => YieldsG P ops w oi v a') hj (fun ds x => ?_) h1)
  exact YieldsG.same (a := { a with defers := ds }) (hy.same rfl rfl) (execOp_put oi hsi _ oj.dst x h3) (wanted_put oi _ oj.dst x h3)

/-- Whatever order is picked; behind every operation ahead of number n the world has but grown; L: what is asked there. -/
def wpAnyU (P : Program) (md : Region.Mode) (ops : Array Oper) (Q : Exit → Act → World → Prop) (n : Nat) (L : Array Bool → Act → World → Prop) : Nat → Array Bool → Act → World → Prop
  | 0, listed, a, w => L listed a w
  | f + 1, listed, a, w => Region.ready md ops listed ≠ [] ∧ ∀ i ∈ Region.ready md ops listed, i < n ∧
      ∀ u, Grows w u → wpOp P ops Q i (fun a' u' => Grows u u' ∧ wpAnyU P md ops Q n L f (listed.setIfInBounds i true) a' u') a u

theorem wpAnyU_later {n : Nat} {L : Array Bool → Act → World → Prop} (hL : ∀ listed a w w', Grows w w' → L listed a w → L listed a w') :
    ∀ (f : Nat) (listed : Array Bool) (a : Act) (w w' : World), Grows w w' → wpAnyU P md ops Q n L f listed a w → wpAnyU P md ops Q n L f listed a w'
  | 0, _, _, _, _, hg, h => hL _ _ _ _ hg h
  | _ + 1, _, _, _, _, hg, h => ⟨h.1, fun i hi => ⟨(h.2 i hi).1, fun u hu => (h.2 i hi).2 u (Grows.trans hg hu)⟩⟩

theorem wpAny_of_U {n g : Nat} {L : Array Bool → Act → World → Prop} (hL : ∀ listed a w, L listed a w → wpAny P md ops Q g listed a w) :
    ∀ (f : Nat) (listed : Array Bool) (a : Act) (w : World), wpAnyU P md ops Q n L f listed a w → wpAny P md ops Q (f + g) listed a w
  | 0, listed, a, w, h => by rw [Nat.zero_add]; exact hL _ _ _ h
  | f + 1, listed, a, w, h => by
    rw [show f + 1 + g = (f + g) + 1 by omega]
    exact ⟨fun h0 => absurd h0 h.1, fun i hi => wpOp_mono (fun a' w' h' => wpAny_of_U hL f _ a' w' h'.2) ((h.2 i hi).2 w (Grows.refl w))⟩

theorem wpAnyU_first {n i : Nat} {oi : Oper} {v : Value} {L : Array Bool → Act → World → Prop} (hi : ops[i]? = some oi) (hsel : ∀ (j : Nat) (o : Oper) cs b, ops[j]? = some o → o.op ≠ .select cs b)
    (hQ : ∀ c a w, Q (.panic c) (a.put oi.dst v) w → Q (.panic c) a w) (hin : i < n) (hwait : ∀ listed, HeadInv md ops n listed → listed.getD i true = false → ∀ j ∈ Region.ready md ops listed, j < n)
    (hL : ∀ listed a w w', Grows w w' → L listed a w → L listed a w') (hdone : ∀ listed a w, L listed a w → ∀ j ∈ Region.ready md ops listed, n ≤ j) :
    ∀ (f : Nat) (listed : Array Bool) (a : Act) (w : World), HeadInv md ops n listed →
      (∀ j oj, ops[j]? = some oj → j ≠ i → listed.getD j true = false → (∀ e ∈ oj.after, Region.binds md e = true → e.on ≠ i) → oi.apart ops oj = true) →
      i ∈ Region.ready md ops listed → YieldsG P ops w oi v a →
      wpAnyU P md ops Q n L f (listed.setIfInBounds i true) (a.put oi.dst v) w → wpAnyU P md ops Q n L (f + 1) listed a w := by
  intro f
  induction f with
  | zero =>
    intro listed a w inv _ hr hy H
    have hun := (mem_ready.1 hr).1
    refine ⟨fun h => (by rw [h] at hr; cases hr), fun j hj => ⟨hwait listed inv hun j hj, fun u hu => ?_⟩⟩
    by_cases hji : j = i
    · subst hji
      exact hy.wpOp hi hu fun u' hu' => ⟨hu', hL _ _ _ _ (Grows.trans hu hu') H⟩
    · have h1 := hdone _ _ _ H j (ready_mono hj hji)
      have h2 := hwait listed inv hun j hj
      omega
  | succ f ih =>
    intro listed a w inv hfree hr hy H
    have hun := (mem_ready.1 hr).1
    refine ⟨fun h => (by rw [h] at hr; cases hr), fun j hj => ⟨hwait listed inv hun j hj, fun u hu => ?_⟩⟩
    by_cases hji : j = i
    · subst hji
      exact hy.wpOp hi hu fun u' hu' => ⟨hu', wpAnyU_later hL _ _ _ _ _ (Grows.trans hu hu') H⟩
    · have h1 := (H.2 j (ready_mono hj hji)).2 u hu
      obtain ⟨hjun, oj, hoj, hall⟩ := mem_ready.1 hj
      have hnot : ∀ e ∈ oj.after, Region.binds md e = true → e.on ≠ i := fun e he hb heq => by
        have h1 := hall e he hb
        rw [heq, getD_both hun] at h1
        cases h1
      have h2 := wpOp_beside hoj (hfree j oj hoj hji hjun hnot) (fun cs b => hsel i oi cs b hi) (fun cs b => hsel j oj cs b hoj) hQ hy h1
      have hfree' : ∀ k ok, ops[k]? = some ok → k ≠ i → (listed.setIfInBounds j true).getD k true = false →
          (∀ e ∈ ok.after, Region.binds md e = true → e.on ≠ i) → oi.apart ops ok = true := fun k ok hk hki hun' hno => by
        refine hfree k ok hk hki ?_ hno
        by_cases hjk : j = k
        · subst hjk; exact hjun
        · rwa [getD_set_ne true hjk] at hun'
      refine wpOp_mono (fun a' u' h3 => ⟨h3.2.1, ih (listed.setIfInBounds j true) a' u' (inv.set hj (hwait listed inv hun j hj)) hfree' (ready_mono hr (Ne.symm hji)) (h3.1.later (Grows.trans hu h3.2.1)) ?_⟩) h2
      rw [Array.setIfInBounds_comm _ _ hji]
      exact h3.2.2

/-- Our order of the first n: (i, true): taken as soon as it may come up; (i, false): nobody else may come up. Then what is left comes in the order of the text. -/
def ordB (md : Region.Mode) (ops : Array Oper) (n g : Nat) : List (Nat × Bool) → Array Bool → Bool
  | [], listed => Region.seqB md ops g n listed
  | (i, true) :: s, listed => decide (i < n) && (Region.ready md ops listed).contains i && Region.free md ops listed i && ordB md ops n g s (listed.setIfInBounds i true)
  | (i, false) :: s, listed => decide (i < n) && (Region.ready md ops listed == [i]) && ordB md ops n g s (listed.setIfInBounds i true)

/-- The walk in our order, from every world that has grown from w; E: what is asked behind it. -/
def wpOrd (P : Program) (ops : Array Oper) (Q : Exit → Act → World → Prop) (E : Act → World → Prop) : List (Nat × Bool) → Act → World → Prop
  | [], a, w => ∀ u, Grows w u → E a u
  | (i, true) :: s, a, w => ∃ o v, ops[i]? = some o ∧ YieldsG P ops w o v a ∧ wpOrd P ops Q E s (a.put o.dst v) w
  | (i, false) :: s, a, w => ∀ u, Grows w u → wpOp P ops Q i (fun a' u' => Grows u u' ∧ wpOrd P ops Q E s a' u') a u

theorem wpAnyU_of_ord {n g : Nat} {E : Act → World → Prop} (hs : Region.noSelect ops = true) (hQ : ∀ c a d v w, Q (.panic c) (Act.put a d v) w → Q (.panic c) a w)
    (hwait : ∀ i, i < n → ∀ listed, HeadInv md ops n listed → listed.getD i true = false → ∀ j ∈ Region.ready md ops listed, j < n) :
    ∀ (s : List (Nat × Bool)) (listed : Array Bool) (a : Act) (w : World), HeadInv md ops n listed → ordB md ops n g s listed = true → wpOrd P ops Q E s a w →
      wpAnyU P md ops Q n (fun listed' a' w' => Region.seqB md ops g n listed' = true ∧ ∀ u, Grows w' u → E a' u) s.length listed a w
  | [], listed, a, w, inv, hB, h => ⟨hB, h⟩
  | (i, true) :: s, listed, a, w, inv, hB, h => by
    simp only [ordB, Bool.and_eq_true, decide_eq_true_eq] at hB
    obtain ⟨⟨⟨hin, hr⟩, hf⟩, hB'⟩ := hB
    obtain ⟨o, v, ho, hy, h'⟩ := h
    have hr' : i ∈ Region.ready md ops listed := by simpa using hr
    exact wpAnyU_first ho (Region.noSelect_spec hs) (fun c a w => hQ c a o.dst v w) hin (hwait i hin) (fun _ _ _ _ hg hl => ⟨hl.1, fun u hu => hl.2 u (Grows.trans hg hu)⟩) (fun _ _ _ hl => seqB_ready hl.1)
      s.length listed a w inv (Region.free_spec ho hf) hr' hy (wpAnyU_of_ord hs hQ hwait s _ _ w (inv.set hr' hin) hB' h')
  | (i, false) :: s, listed, a, w, inv, hB, h => by
    simp only [ordB, Bool.and_eq_true, decide_eq_true_eq] at hB
    obtain ⟨⟨hin, hr⟩, hB'⟩ := hB
    have hr' : Region.ready md ops listed = [i] := by simpa using hr
    have hm : i ∈ Region.ready md ops listed := by rw [hr']; simp
    refine ⟨fun h0 => (by rw [hr'] at h0; cases h0), fun j hj => ?_⟩
    rw [hr'] at hj
    have hji : j = i := by simpa using hj
    subst hji
    exact ⟨hin, fun u hu => wpOp_mono (fun a' w' h' => ⟨h'.1, wpAnyU_of_ord hs hQ hwait s _ a' w' (inv.set hm hin) hB' h'.2⟩) (h u hu)⟩

/-- The Bool of a whole region: n of its operations by our order, what is left (it waits for all of them) by the text's. -/
def ordWholeB (ops : Array Oper) (n : Nat) (s : List (Nat × Bool)) : Bool :=
  Region.noSelect ops && decide (n ≤ ops.size) && (decide (n = ops.size) || (Region.sinkB .any ops n && Region.chainB .any ops n)) && (s.length == n) && ordB .any ops n (ops.size - n) s (Array.replicate ops.size false)

/-- THE RULE. -/
theorem wp_region_ord {id : Nat} {a : Act} {w : World} {l : List Oper} (n : Nat) (s : List (Nat × Bool)) (hm : P.follows .mixedOrders = true) (hB : ordWholeB l.toArray n s = true)
    (h : wpOrd P l.toArray (NoPanic Q) (fun a' u => wpList P l.toArray (NoPanic Q) (l.drop n) a' u) s a w.drew) : (Code.region id l.toArray true).wp P Q a w := by
  simp only [ordWholeB, Bool.and_eq_true, decide_eq_true_eq, Bool.or_eq_true, beq_iff_eq] at hB
  obtain ⟨⟨⟨⟨hsel, hn⟩, hc⟩, hl⟩, hord⟩ := hB
  have hdl : (l.drop n).length = l.toArray.size - n := by simp
  have inv0 : HeadInv .any l.toArray n (Array.replicate l.toArray.size false) :=
    ⟨by simp, fun j oj _ hl => (by rw [getD_replicate_false] at hl; cases hl), fun t _ ht => getD_in (by simpa using ht) (getD_replicate_false _ _)⟩
  have hwait : ∀ i, i < n → ∀ listed, HeadInv .any l.toArray n listed → listed.getD i true = false → ∀ j ∈ Region.ready .any l.toArray listed, j < n := fun i hi listed inv hun j hj => by
    rcases hc with hc | ⟨hs, hch⟩
    · obtain ⟨_, oj, hoj, _⟩ := mem_ready.1 hj
      have := (Array.getElem?_eq_some_iff.1 hoj).1
      omega
    · rcases Nat.lt_or_ge j n with h | h
      · exact h
      · have hjs : j < l.toArray.size := by
          obtain ⟨_, oj, hoj, _⟩ := mem_ready.1 hj
          exact (Array.getElem?_eq_some_iff.1 hoj).1
        exact absurd hj (tail_waits hs hch (by omega) inv _ i rfl hi hun j h)
  refine wp_region_noPanic (wp_region_any hm ?_)
  have H := wpAnyU_of_ord (md := .any) (g := l.toArray.size - n) (Q := NoPanic Q) hsel (fun c a d v w h => h) hwait s _ a w.drew inv0 hord h
  have := wpAny_of_U (Q := NoPanic Q) (g := l.toArray.size - n) (fun listed a' w' hL => by
    have := wpAny_of_seq (md := .any) (Q' := NoPanic Q) (l.drop n) n listed a' w' (fun j => by simp [List.getElem?_drop]) (by rw [hdl]; exact hL.1) (hL.2 w' (Grows.refl _))
    rwa [hdl] at this) _ _ _ _ H
  rw [hl, show n + (l.toArray.size - n) = l.toArray.size by omega] at this
  exact this

theorem ord_take {l : List Oper} {E : Act → World → Prop} {w0 w : World} {i : Nat} {s : List (Nat × Bool)} {a : Act} (h0 : Grows w0 w) (o : Oper) (v : Value) (ho : l[i]? = some o)
    (hw : Region.wanted o (yielded l.toArray a.tmps) = true) (hy : ∀ u, Grows w0 u → Grows w u → (execOp a.eval o).run P u = .ok (.value v) u)
    (h : wpOrd P l.toArray Q E s (a.put o.dst v) w) : wpOrd P l.toArray Q E ((i, true) :: s) a w :=
  ⟨o, v, by simpa using ho, .inl ⟨hw, fun u hu => by unfold Oper.quietAt; rw [hy u (Grows.trans h0 hu) hu]; exact ⟨rfl, rfl⟩⟩, h⟩
/-- A call that yields one value, and lets the world but grow. -/
theorem ord_call {l : List Oper} {E : Act → World → Prop} {w0 w : World} {i : Nat} {s : List (Nat × Bool)} {a : Act} (h0 : Grows w0 w) (o : Oper) (v : Value) (ho : l[i]? = some o)
    (hw : Region.wanted o (yielded l.toArray a.tmps) = true) (hy : ∀ u, Grows w0 u → Grows w u → Oper.quietUpon P (Grows u) u v ((execOp a.eval o).run P u))
    (h : wpOrd P l.toArray Q E s (a.put o.dst v) w) : wpOrd P l.toArray Q E ((i, true) :: s) a w :=
  ⟨o, v, by simpa using ho, .inl ⟨hw, fun u hu => hy u (Grows.trans h0 hu) hu⟩, h⟩
theorem quiet_enter {f : FuncId} {args : Array Value} {u : World} {v : Value} (h : Calls P f args u fun e u' => e = .returned v ∧ Grows u u') : Oper.quietUpon P (Grows u) u v (.ok (.enter f args) u) := ⟨rfl, h⟩
theorem ord_load {l : List Oper} {E : Act → World → Prop} {w0 w : World} {i : Nat} {s : List (Nat × Bool)} {a : Act} (h0 : Grows w0 w) (o : Oper) (v : Value) (ho : l[i]? = some o)
    (hw : Region.wanted o (yielded l.toArray a.tmps) = true) (ty : TypeId) (x : Operand) (hop : o.op = .load ty x) (p : Option Addr) (hx : a.eval x = .pointer p)
    (hy : ∀ u, Grows w0 u → (Instr.loadAt ty (.pointer p)).run P u = .ok v u)
    (h : wpOrd P l.toArray Q E s (a.put o.dst v) w) : wpOrd P l.toArray Q E ((i, true) :: s) a w :=
  ord_take h0 o v ho hw (fun u hu _ => exec_load hop hx (hy u hu)) h
theorem ord_skip {l : List Oper} {E : Act → World → Prop} {w : World} {i : Nat} {s : List (Nat × Bool)} {a : Act} (o : Oper) (ho : l[i]? = some o)
    (hw : Region.wanted o (yielded l.toArray a.tmps) = false) (h : wpOrd P l.toArray Q E s (a.put o.dst undef) w) : wpOrd P l.toArray Q E ((i, true) :: s) a w :=
  ⟨o, undef, by simpa using ho, .inr ⟨hw, rfl⟩, h⟩
theorem ord_move {l : List Oper} {E : Act → World → Prop} {w : World} {i : Nat} {s : List (Nat × Bool)} {a : Act} (o : Oper) (ho : l[i]? = some o)
    (hw : Region.wanted o (yielded l.toArray a.tmps) = true)
    (h : ∀ u, Grows w u → ∀ K : Act → World → Prop, Shut (∀ a' u', Grows u u' → wpOrd P l.toArray Q E s a' u' → K a' u') → Oper.wp P o a u K Q) : wpOrd P l.toArray Q E ((i, false) :: s) a w := by
  intro u hu
  refine wpOp_step (by simpa using ho) fun K hK => ?_
  rw [if_pos hw]
  exact h u hu K fun a' w' hg hs => hK a' w' ⟨hg, hs⟩
theorem ord_pass {l : List Oper} {E : Act → World → Prop} {w : World} {i : Nat} {s : List (Nat × Bool)} {a : Act} (o : Oper) (ho : l[i]? = some o)
    (hw : Region.wanted o (yielded l.toArray a.tmps) = false) (h : ∀ u, Grows w u → wpOrd P l.toArray Q E s (a.put o.dst undef) u) : wpOrd P l.toArray Q E ((i, false) :: s) a w := by
  intro u hu
  refine wpOp_step (by simpa using ho) fun K hK => ?_
  rw [if_neg (by rw [hw]; exact Bool.false_ne_true)]
  exact hK _ _ ⟨Grows.refl _, h u hu⟩
theorem ord_done {l : List Oper} {E : Act → World → Prop} {w : World} {a : Act} (h : ∀ u, Grows w u → E a u) : wpOrd P l.toArray Q E [] a w := h
end
attribute [irreducible] wpOrd
end Go.Proofs.YtbcldknecdbemaaDoor

/-
  Words for variables of any cells (of no program): a block whose cells are known and may be written; parts of it loaded and stored whole; results that lie in memory.
-/
namespace Go.Proofs.YtbcldknecdbemaaDoor
open Go.RowKit
set_option linter.unusedVariables false
set_option maxRecDepth 20000

/-- A word of 32 bits as a value. -/
abbrev uv (n : Nat) : Value := .int .u32 (n : Int)
theorem uv_one (l : List Nat) : ∀ u ∈ l.map uv, u.oneCell' = true := fun u hu => by
  obtain ⟨b, _, rfl⟩ := List.mem_map.1 hu
  rfl

/-- The variable in block b begins with the cells vs, and may be written. -/
structure Has (w : World) (b : Nat) (vs : List Value) : Prop where
  lt : b < w.heap.size
  cells : w.rangeAt b 0 vs
  free : ∀ j, w.frozen? ⟨b, j, none⟩ = false

section
variable {w w' : World} {b o : Nat} {vs cs : List Value}
theorem range_later (h : w.rangeAt b o cs) (hg : Grows w w') : w'.rangeAt b o cs := fun j v hv => hcell_later (h j v hv) hg
theorem range_below {B : Nat} (h : w.rangeAt b o cs) (hg : Below B w w') (hB : b < B) : w'.rangeAt b o cs := fun j v hv => (hg.cell (p := ⟨b, o + j, none⟩) hB).trans (h j v hv)
theorem range_cell (h : w.rangeAt b o cs) {k : Nat} {u : Value} (hu : cs[k]? = some u) : w.cell? ⟨b, o + k, none⟩ = some u := h k u hu
theorem Has.new (w : World) (t : TypeId) (vs : List Value) : Has (w.alloc (.cells vs.toArray t)) w.heap.size vs :=
  ⟨by simp, fun j u hu => by rw [cell_of_row _ _ _ _ t (0, 0) (heap_alloc_new w _)]; simpa using hu, fun j => frozen_of_row _ _ j _ t (heap_alloc_new w _)⟩
theorem Has.below {B : Nat} (h : Has w b vs) (hb : Below B w w') (hB : b < B) : Has w' b vs :=
  ⟨Nat.lt_of_lt_of_le h.lt hb.size, range_below h.cells hb hB, fun j => (hb.frozen (p := ⟨b, j, none⟩) hB).trans (h.free j)⟩
theorem Has.later (h : Has w b vs) (hb : Grows w w') : Has w' b vs := h.below hb h.lt
theorem Has.drew (h : Has w b vs) : Has w.drew b vs := ⟨h.lt, h.cells, h.free⟩
theorem Has.cell (h : Has w b vs) {k : Nat} {u : Value} (hu : vs[k]? = some u) : w.cell? ⟨b, k, none⟩ = some u := by have := h.cells k u hu; rwa [Nat.zero_add] at this
theorem Has.part (h : Has w b vs) (o : Nat) (hp : ∀ j u, cs[j]? = some u → vs[o + j]? = some u) : w.rangeAt b o cs := fun j u hu => h.cell (hp j u hu)
theorem there_of (h : w.rangeAt b o cs) (hf : ∀ j, w.frozen? ⟨b, j, none⟩ = false) : w.there b o cs.length := fun j hj => ⟨h.isSome j hj, hf _⟩
theorem Has.there (h : Has w b vs) : w.there b 0 vs.length := there_of h.cells h.free

theorem size_setCells (b : Nat) : ∀ (vs : List Value) (o : Nat) (w : World), (w.setCells b o vs).heap.size = w.heap.size
  | [], _, _ => rfl
  | v :: r, o, w => by rw [World.setCells, size_setCells b r]; simp [World.setCell]
theorem Has.lies (h : Has w b vs) : Lies w w.heap.size (some ⟨b, 0, none⟩) vs := fun j u hu => ⟨_, rfl, h.lt, by rw [add_plain, Nat.zero_add]; exact h.cell hu⟩
theorem range_lies (h : w.rangeAt b 0 vs) : Lies w w.heap.size (some ⟨b, 0, none⟩) vs := fun j u hu => ⟨_, rfl, World.block_lt_of_cell? w ⟨b, 0 + j, none⟩ (h j u hu), by rw [add_plain]; exact h j u hu⟩
/-- One cell is stored. -/
theorem Has.set_ (h : Has w b vs) {k : Nat} (hk : k < vs.length) (x : Value) : Has (w.setCell ⟨b, k, none⟩ x) b (vs.set k x) := by
  have hL : Lies w w.heap.size (some ⟨b, 0, none⟩) vs := fun j u hu => ⟨_, rfl, h.lt, by rw [add_plain, Nat.zero_add]; exact h.cell hu⟩
  have hs := hL.set_ (k := k) (u := x) hk
  refine ⟨by simpa [World.setCell] using h.lt, fun j u hu => ?_, fun j => by simpa using h.free j⟩
  obtain ⟨ad, e, _, hc⟩ := hs j u hu
  injection e with e
  subst e
  rwa [add_plain] at hc
/-- It is stored whole. -/
theorem Has.put_ (h : Has w b vs) {vs' : List Value} (hl : vs'.length = vs.length) : Has (w.setCells b 0 vs') b vs' :=
  ⟨by rw [size_setCells]; exact h.lt, World.rangeAt_setCells_same w b 0 vs' (by rw [hl]; exact h.there), fun j => by rw [World.frozen?_setCells]; exact h.free j⟩
theorem range_load {P : Program} {t : TypeId} {d : TypeDesc} (h : w.rangeAt b o cs) (ht : P.underlying t = some d) (hd : d.isRow = true) (hi : (P.info? t).map (·.size) = some cs.length) :
    (Instr.loadAt t (.pointer (some ⟨b, o, none⟩))).run P w = .ok (.agg cs.toArray) w := run_loadAt_mid w b o t cs d h ht hd hi
theorem Has.load {P : Program} {t : TypeId} {d : TypeDesc} (h : Has w b vs) (ht : P.underlying t = some d) (hd : d.isRow = true) (hi : (P.info? t).map (·.size) = some vs.length) :
    (Instr.loadAt t (.pointer (some ⟨b, 0, none⟩))).run P w = .ok (.agg vs.toArray) w := range_load h.cells ht hd hi

/-- A store of a whole row in place of another. -/
theorem wpList_storev {P : Program} {ops : Array Oper} {rest : List Oper} {op : Oper} {a : Act} {Q : Exit → Act → World → Prop} (hgd : op.guard = none) (ty : TypeId) (x y : Operand) (ho : op.op = .store ty x y)
    (b : Nat) (vs vs' : List Value) (n : Nat) (hx : a.eval x = .pointer (some ⟨b, 0, none⟩)) (hy : a.eval y = .agg vs'.toArray) (hb : Has w b vs) (hl : vs.length = n) (hl' : vs'.length = n) (hi : (P.info? ty).map (·.size) = some n)
    (h1 : ∀ v ∈ vs', v.oneCell' = true) (h : ∀ w', Has w' b vs' → (∀ B a0, B ≤ b → Below B a0 w → Below B a0 w') → wpList P ops Q rest (a.put op.dst undef) w') : wpList P ops Q (op :: rest) a w := by
  have hz : vs'.toArray.size = n := by simp [hl']
  refine wpList_store_mid hgd ty x y ho b 0 vs'.toArray hx hy (by rw [hz, ← hl]; exact hb.there) (by rw [hz]; exact hi) (all_oneCell_toArray h1) ?_
  exact h _ (hb.put_ (by rw [hl, hl'])) (fun B a0 hB hbl => below_cells b hB _ 0 w hbl)

theorem res_has {P : Program} {fn : Func} {p : Tmp} {t : TypeId} {d : TypeDesc} (h : fn.results = #[.cell p t]) (tmps : Array Value) (hp : tmps.getD p undef = .pointer (some ⟨b, 0, none⟩))
    (ht : P.underlying t = some d) (hd : d.isRow = true) (hi : (P.info? t).map (·.size) = some vs.length) (hb : Has w b vs) : (results fn tmps).run P w = .ok (.agg vs.toArray) w := by
  have hp' : tmps[p]?.getD undef = .pointer (some ⟨b, 0, none⟩) := by simpa using hp
  simp [results, h, hp', asAddr, run_loadVar_mid w b 0 t vs d hb.cells ht hd hi]

theorem own_later {base : Nat} {e : TypeId} {size : Nat} {v : Value} {n : Nat} {xs : List Value} (h : w.ownsRow base e size v n xs) (hg : Grows w w') : w'.ownsRow base e size v n xs := by
  refine ⟨h.1, h.2.imp id ?_⟩
  rintro ⟨g, cap, cur, hv, hb, hh, rest⟩
  refine ⟨g, cap, cur, hv, hb, ?_, rest⟩
  have hlt : g < w.heap.size := by
    rcases Nat.lt_or_ge g w.heap.size with hlt | hge
    · exact hlt
    · rw [Array.getElem?_eq_none hge] at hh; cases hh
  rw [hg.block g hlt]
  exact hh
theorem own_drawn {base : Nat} {e : TypeId} {size m : Nat} {v : Value} {n : Nat} {xs : List Value} (h : w.ownsRow base e size v n xs) : (w.drewN m).ownsRow base e size v n xs := h
theorem Has.drawn {m : Nat} (h : Has w b vs) : Has (w.drewN m) b vs := ⟨h.lt, h.cells, h.free⟩
theorem below_put {B : Nat} {a0 : World} (hB : B ≤ b) (h : Below B a0 w) (vs : List Value) (o : Nat) : Below B a0 (w.setCells b o vs) := below_cells b hB vs o w h
theorem grows_alloc (w : World) (ob : Obj) : Grows w (w.alloc ob) := (Grows.refl w).alloc (Nat.le_refl _) _
theorem mid_set {α : Type} (l z : List α) (k : Nat) (x : α) (hx : l[k]? = some x) (hz : k < z.length) : (l.take k ++ z.drop k).set k x = l.take (k + 1) ++ z.drop (k + 1) := by
  have hk : k < l.length := (List.getElem?_eq_some_iff.1 hx).1
  have e : x = l[k] := by rw [List.getElem?_eq_getElem hk] at hx; injection hx with hx; exact hx.symm
  rw [List.set_append_right _ _ (by simp; omega), List.length_take, Nat.min_eq_left (by omega), Nat.sub_self, List.drop_eq_getElem_cons hz, List.set_cons_zero,
    List.take_succ_eq_append_getElem hk, e, List.append_assoc]
  rfl
end
end Go.Proofs.YtbcldknecdbemaaDoor

/-
  CRC-32C as functions of numbers and lists (of no program): a step, a byte, bytes; all are linear, and no two numbers have one step.
-/
namespace Go.Proofs.YtbcldknecdbemaaDoor
set_option linter.unusedVariables false
set_option maxRecDepth 20000

/-- A step of a number. -/
def cstep (n : Nat) : Nat := if n % 2 = 1 then n / 2 ^^^ 2197175160 else n / 2
def csteps : Nat → Nat → Nat
  | 0, n => n
  | k + 1, n => csteps k (cstep n)
/-- A byte: changed by it, then eight steps. -/
def cbyte (n : Nat) (b : UInt8) : Nat := csteps 8 (n ^^^ b.toNat)
def cbytes (n : Nat) (l : List UInt8) : Nat := l.foldl cbyte n
/-- k bytes 0. -/
def czeros : Nat → Nat → Nat
  | 0, n => n
  | k + 1, n => czeros k (csteps 8 n)
/-- The check of bytes behind others whose check is s. -/
def cmore (s : Nat) (l : List UInt8) : Nat := 4294967295 - cbytes (4294967295 - s) l
def crcOf (l : List UInt8) : Nat := cmore 0 l

theorem half_xor (x y : Nat) : (x ^^^ y) / 2 = x / 2 ^^^ y / 2 := by
  have h : ∀ a : Nat, a / 2 = a >>> 1 := fun a => by rw [Nat.shiftRight_eq_div_pow]
  rw [h, h, h, Nat.shiftRight_xor_distrib]
theorem odd_xor (x y : Nat) : (x ^^^ y) % 2 = (x % 2 + y % 2) % 2 := by
  have h := Nat.xor_mod_two_pow (a := x) (b := y) (n := 1)
  rw [show (2 : Nat) ^ 1 = 2 from rfl] at h
  rw [h]
  rcases Nat.mod_two_eq_zero_or_one x with hx | hx <;> rcases Nat.mod_two_eq_zero_or_one y with hy | hy <;> rw [hx, hy] <;> rfl
theorem cstep_xor (x y : Nat) : cstep (x ^^^ y) = cstep x ^^^ cstep y := by
  have ho := odd_xor x y
  unfold cstep
  rw [half_xor]
  have hx := Nat.mod_two_eq_zero_or_one x
  have hy := Nat.mod_two_eq_zero_or_one y
  rcases hx with hx | hx <;> rcases hy with hy | hy <;> rw [hx, hy] at ho <;> simp only [ho, hx, hy] <;> simp
  · exact Nat.xor_assoc _ _ _
  · rw [Nat.xor_assoc, Nat.xor_comm (y / 2), ← Nat.xor_assoc]
  · have : ∀ a b p : Nat, a ^^^ b = (a ^^^ p) ^^^ (b ^^^ p) := fun a b p => by
      rw [Nat.xor_assoc, ← Nat.xor_assoc p, Nat.xor_comm p b, Nat.xor_assoc b, Nat.xor_self, Nat.xor_zero]
    exact this _ _ _
theorem cstep_lt {n : Nat} (h : n < 4294967296) : cstep n < 4294967296 := by
  unfold cstep
  split
  · exact Nat.xor_lt_two_pow (n := 32) (by omega) (by decide)
  · omega
theorem csteps_xor : ∀ k x y, csteps k (x ^^^ y) = csteps k x ^^^ csteps k y
  | 0, _, _ => rfl
  | k + 1, x, y => by rw [csteps, cstep_xor, csteps_xor k]; rfl
theorem csteps_lt : ∀ k {n}, n < 4294967296 → csteps k n < 4294967296
  | 0, _, h => h
  | k + 1, _, h => csteps_lt k (cstep_lt h)
theorem cbyte_lt {n : Nat} (h : n < 4294967296) (b : UInt8) : cbyte n b < 4294967296 :=
  csteps_lt 8 (Nat.xor_lt_two_pow (n := 32) h (by have := b.toNat_lt; omega))
theorem cbytes_lt : ∀ (l : List UInt8) {n : Nat}, n < 4294967296 → cbytes n l < 4294967296
  | [], _, h => h
  | b :: r, _, h => cbytes_lt r (cbyte_lt h b)
theorem czeros_lt : ∀ k {n}, n < 4294967296 → czeros k n < 4294967296
  | 0, _, h => h
  | k + 1, _, h => czeros_lt k (csteps_lt 8 h)
theorem czeros_xor : ∀ k x y, czeros k (x ^^^ y) = czeros k x ^^^ czeros k y
  | 0, _, _ => rfl
  | k + 1, x, y => by rw [czeros, csteps_xor, czeros_xor k]; rfl
theorem cbytes_append (n : Nat) (l r : List UInt8) : cbytes n (l ++ r) = cbytes (cbytes n l) r := by simp [cbytes]
theorem cbytes_cons (n : Nat) (b : UInt8) (r : List UInt8) : cbytes n (b :: r) = cbytes (cbyte n b) r := rfl
/-- Bytes behind a number that is changed by z. -/
theorem cbytes_xor : ∀ (l : List UInt8) (x z : Nat), cbytes (x ^^^ z) l = cbytes x l ^^^ czeros l.length z
  | [], _, _ => rfl
  | b :: r, x, z => by
    rw [cbytes_cons, cbytes_cons]
    have : cbyte (x ^^^ z) b = cbyte x b ^^^ csteps 8 z := by
      unfold cbyte
      rw [Nat.xor_assoc, Nat.xor_comm z, ← Nat.xor_assoc, csteps_xor]
    rw [this, cbytes_xor r]
    rfl
/-- All bits turned. -/
theorem turn_xor {s : Nat} (h : s < 4294967296) : 4294967295 - s = 4294967295 ^^^ s := by
  have h1 : (BitVec.allOnes 32 ^^^ BitVec.ofNat 32 s).toNat = 4294967295 - s := by
    rw [BitVec.allOnes_xor, BitVec.toNat_not, BitVec.toNat_ofNat, Nat.mod_eq_of_lt (by omega)]
  rw [← h1, BitVec.toNat_xor, BitVec.toNat_ofNat, Nat.mod_eq_of_lt (by omega)]
  rfl
theorem cmore_lt {s : Nat} (h : s < 4294967296) (l : List UInt8) : cmore s l < 4294967296 := by unfold cmore; omega
theorem cmore_nil {s : Nat} (h : s < 4294967296) : cmore s [] = s := by unfold cmore cbytes; simp; omega
theorem cmore_append {s : Nat} (h : s < 4294967296) (l r : List UInt8) : cmore s (l ++ r) = cmore (cmore s l) r := by
  have hb := cbytes_lt l (n := 4294967295 - s) (by omega)
  unfold cmore
  rw [cbytes_append]
  congr 2
  omega
/-- THE JOIN: what goes on behind a check is the check of what comes, changed by the first that went on by bytes 0. -/
theorem cmore_join {s : Nat} (h : s < 4294967296) (l : List UInt8) : cmore s l = czeros l.length s ^^^ crcOf l := by
  have h0 : (4294967295 : Nat) < 4294967296 := by decide
  have h1 : 4294967295 - s = (4294967295 - 0) ^^^ s := by rw [Nat.sub_zero]; exact turn_xor h
  have h2 := cbytes_lt l (n := 4294967295) h0
  unfold crcOf cmore
  rw [h1, cbytes_xor, Nat.sub_zero, turn_xor h2, turn_xor (Nat.xor_lt_two_pow (n := 32) h2 (czeros_lt _ h)), ← Nat.xor_assoc, Nat.xor_comm]

/-- No two numbers have one step. -/
theorem cstep_inj {x y : Nat} (hx : x < 4294967296) (hy : y < 4294967296) (h : cstep x = cstep y) : x = y := by
  have key : ∀ n : Nat, n < 4294967296 → (cstep n).testBit 31 = decide (n % 2 = 1) := fun n hn => by
    unfold cstep
    have hb : (n / 2).testBit 31 = false := Nat.testBit_lt_two_pow (by omega)
    split
    · rename_i ho
      rw [Nat.testBit_xor, hb, ho]
      decide
    · rename_i ho
      rw [hb, decide_eq_false ho]
  have h1 : decide (x % 2 = 1) = decide (y % 2 = 1) := by rw [← key x hx, ← key y hy, h]
  have h2 : x % 2 = 1 ↔ y % 2 = 1 := by simpa using h1
  unfold cstep at h
  by_cases ho : x % 2 = 1
  · rw [if_pos ho, if_pos (h2.1 ho)] at h
    have h3 : x / 2 = y / 2 := by
      have := congrArg (· ^^^ 2197175160) h
      simpa [Nat.xor_assoc] using this
    omega
  · rw [if_neg ho, if_neg (fun e => ho (h2.2 e))] at h
    omega
theorem csteps_inj : ∀ k {x y : Nat}, x < 4294967296 → y < 4294967296 → csteps k x = csteps k y → x = y
  | 0, _, _, _, _, h => h
  | k + 1, _, _, hx, hy, h => cstep_inj hx hy (csteps_inj k (cstep_lt hx) (cstep_lt hy) h)
theorem xor_right_inj {a x y : Nat} (h : x ^^^ a = y ^^^ a) : x = y := by
  have := congrArg (· ^^^ a) h
  simpa [Nat.xor_assoc] using this
theorem xor_left_inj {a x y : Nat} (h : a ^^^ x = a ^^^ y) : x = y := by
  rw [Nat.xor_comm a, Nat.xor_comm a] at h
  exact xor_right_inj h
theorem cbyte_inj {x y : Nat} (hx : x < 4294967296) (hy : y < 4294967296) {b : UInt8} (h : cbyte x b = cbyte y b) : x = y := by
  have hb := b.toNat_lt
  exact xor_right_inj (csteps_inj 8 (Nat.xor_lt_two_pow (n := 32) hx (by omega)) (Nat.xor_lt_two_pow (n := 32) hy (by omega)) h)
theorem cbyte_byte_inj {x : Nat} (hx : x < 4294967296) {b c : UInt8} (h : cbyte x b = cbyte x c) : b = c := by
  have hb := b.toNat_lt
  have hc := c.toNat_lt
  exact UInt8.toNat_inj.1 (xor_left_inj (csteps_inj 8 (Nat.xor_lt_two_pow (n := 32) hx (by omega)) (Nat.xor_lt_two_pow (n := 32) hx (by omega)) h))
theorem cbytes_inj : ∀ (l : List UInt8) {x y : Nat}, x < 4294967296 → y < 4294967296 → cbytes x l = cbytes y l → x = y
  | [], _, _, _, _, h => h
  | b :: r, _, _, hx, hy, h => cbyte_inj hx hy (cbytes_inj r (cbyte_lt hx b) (cbyte_lt hy b) h)
/-- Texts that part in one byte have other checks. -/
theorem crc_differs (l r : List UInt8) (b c : UInt8) (h : b ≠ c) : crcOf (l ++ b :: r) ≠ crcOf (l ++ c :: r) := by
  intro he
  have h0 : (4294967295 : Nat) < 4294967296 := by decide
  have h1 := cbytes_lt (l ++ b :: r) h0
  have h2 := cbytes_lt (l ++ c :: r) h0
  have h3 : cbytes 4294967295 (l ++ b :: r) = cbytes 4294967295 (l ++ c :: r) := by
    unfold crcOf cmore at he
    rw [Nat.sub_zero] at he
    omega
  rw [cbytes_append, cbytes_append, cbytes_cons, cbytes_cons] at h3
  have h4 := cbytes_lt l h0
  exact h (cbyte_byte_inj h4 (cbytes_inj r (cbyte_lt h4 b) (cbyte_lt h4 c) h3))
set_option maxRecDepth 10000 in
theorem crc_nine : crcOf [49, 50, 51, 52, 53, 54, 55, 56, 57] = 3808858755 := by decide +kernel
end Go.Proofs.YtbcldknecdbemaaDoor

/-
  Contracts of crc's step, More and Sum, and of the reference's More.
-/
namespace Go.Proofs.YtbcldknecdbemaaDoor
open Go.RowKit
set_option linter.unusedVariables false
set_option maxRecDepth 20000

theorem ret_w32 {a b : Int} (h : a = b) : Ending.returned (.int .u32 a) = .returned (.int .u32 b) := by rw [h]
theorem w32_not (a : Nat) (ha : a < 4294967296) : bits .xor .u32 (if IntKind.u32.signed = true then -1 else IntKind.u32.max) (a : Int) = ((4294967295 - a : Nat) : Int) := by
  show IntKind.u32.wrap ((BitVec.ofInt 32 (if IntKind.u32.signed = true then -1 else IntKind.u32.max) ^^^ BitVec.ofInt 32 (a : Int)).toNat : Int) = _
  have h1 : BitVec.ofInt 32 (if IntKind.u32.signed = true then -1 else IntKind.u32.max) = BitVec.allOnes 32 := by decide
  rw [h1, BitVec.allOnes_xor, BitVec.toNat_not, ofInt_u32 a ha, IntKind.wrap_u32']
  omega
theorem csteps_succ : ∀ k n, csteps (k + 1) n = cstep (csteps k n)
  | 0, _ => rfl
  | k + 1, n => by rw [csteps, csteps_succ k, csteps]
theorem cbytes_take (n : Nat) (l : List UInt8) (k : Nat) (b : UInt8) (h : l[k]? = some b) : cbytes n (l.take (k + 1)) = cbyte (cbytes n (l.take k)) b := by
  rw [List.take_add_one, h]
  simp [cbytes]

set_option maxHeartbeats 400000 in
theorem cstep_any (x b : Nat) (w : World) (hx : x < 4294967296) (hc : w.cell? ⟨b, 0, none⟩ = some (uv 2197175160)) :
    Calls Tryd.prog 136 #[uv x, .pointer (some ⟨b, 0, none⟩)] w fun e w' => e = .returned (uv (cstep x)) ∧ w = w' := by
  have ha : bits .and .u32 (x : Int) 1 = ((x % 2 : Nat) : Int) := by
    have := u32_and_nat x 1 hx (by omega)
    rw [Nat.and_one_is_mod] at this
    exact this
  have hxo := Lib.hid (show bits .xor .u32 ((x : Int) / 2) 2197175160 = ((x / 2 ^^^ 2197175160 : Nat) : Int) from u32_xor_nat (x / 2) 2197175160 (by omega) (by omega))
  by_cases h : x % 2 = 1
  · rw [h] at ha
    have hs : cstep x = x / 2 ^^^ 2197175160 := by unfold cstep; rw [if_pos h]
    rw [hs]
    clear hs h
    go_enter Tryd.func136, Tryd.ntmps136
    go_wp2
    go_ret
    exact ⟨ret_w32 hxo.out, rfl⟩
  · rw [show x % 2 = 0 by omega] at ha
    have hs : cstep x = x / 2 := by unfold cstep; rw [if_neg h]
    rw [hs]
    clear hs h
    go_enter Tryd.func136, Tryd.ntmps136
    go_wp2
    go_ret
    exact ⟨rfl, rfl⟩

set_option maxHeartbeats 400000 in
theorem stepBy_any (w : World) : Calls Tryd.prog 108 #[uv 2197175160] w fun e w' => ∃ b, e = .returned (.func (.func 136) #[] #[.pointer (some ⟨b, 0, none⟩)]) ∧ w'.cell? ⟨b, 0, none⟩ = some (uv 2197175160) ∧ Grows w w' := by
  have hh := (Has.new w 62 [uv 2197175160]).cell (k := 0) rfl
  have hg := grows_alloc w (.cells #[uv 2197175160] 62)
  go_enter Tryd.func108, Tryd.ntmps108
  go_wp2
  go_ret
  exact ⟨_, rfl, hh, hg⟩

set_option maxHeartbeats 1000000 in
theorem crcmore_any (s : Nat) (A : Option Addr) (n c : Nat) (bs : List UInt8) (w : World) (hs : s < 4294967296) (hl : bs.length = n) (hr : Lies w w.heap.size A (bs.map bv)) (hn : n ≤ 1000000000000) :
    Calls Tryd.prog 76 #[uv s, .slice A n c] w fun e w' => e = .returned (uv (cmore s bs)) ∧ Grows w w' := by
  have hnot := Lib.hid (w32_not s hs)
  have HL := Lib.hid hl
  clear hl
  go_enter Tryd.func76, Tryd.ntmps76
  go_wp2_with fail
  refine (stepBy_any w).mono ?_
  rintro e w1 ⟨bk, rfl, hck, hg1⟩
  have hn0 := hnot.out
  have hr1 := hr.later hg1
  clear hr
  go_wp2
  go_loop [6, 13] (fun x i => ∃ k : Nat, k ≤ n ∧ i = .int .i64 k ∧ x = uv (cbytes (4294967295 - s) (bs.take k))) (fun _ i => n - (intOf i).toNat)
  case atStart => exact ⟨0, Nat.zero_le _, rfl, by simp [cbytes]⟩
  case round =>
    obtain ⟨k, hk, rfl, rfl⟩ := hrel
    have hb := cbytes_lt (bs.take k) (n := 4294967295 - s) (by omega)
    by_cases hlt : k < n
    · obtain ⟨b, hbk⟩ : ∃ b, bs[k]? = some b := ⟨_, List.getElem?_eq_getElem (by rw [HL.out]; exact hlt)⟩
      obtain ⟨ad, rfl, _, cx⟩ := hr1.at_ (j := k) (u := bv b) (by rw [List.getElem?_map, hbk]; rfl)
      have HT := Lib.hid (cbytes_take (4294967295 - s) bs k b hbk)
      clear hbk
      generalize cbytes (4294967295 - s) (bs.take k) = x at *
      have hb8 := b.toNat_lt
      have hxo : bits .xor .u32 (x : Int) (b.toNat : Int) = ((x ^^^ b.toNat : Nat) : Int) := u32_xor_nat x b.toNat hb (by omega)
      have hy : x ^^^ b.toNat < 4294967296 := Nat.xor_lt_two_pow (n := 32) hb (by omega)
      have HC : Hid (cbyte x b = csteps 8 (x ^^^ b.toNat)) := rfl
      generalize hyy : x ^^^ b.toNat = y at *
      clear hyy
      go_wp2
      go_loop [6, 23] (fun x j => ∃ m : Nat, m ≤ 8 ∧ j = .int .i64 m ∧ x = uv (csteps m y)) (fun _ j => 8 - (intOf j).toNat)
      case atStart => exact ⟨0, by omega, rfl, rfl⟩
      case round =>
        obtain ⟨m, hm, rfl, rfl⟩ := hrel
        by_cases hmt : m < 8
        · have hz := csteps_lt m hy
          have hS := Lib.hid (csteps_succ m y)
          generalize csteps m y = z at *
          go_wp2_with fail
          refine (cstep_any z bk w1 hz hck).mono ?_
          rintro e w2 ⟨rfl, rfl⟩
          go_wp2
          go_round
          case rel => exact ⟨m + 1, by omega, by go_num, by rw [hS.out]⟩
          case measure => simp [intOf]; omega
        · obtain rfl : m = 8 := by omega
          go_wp2
          go_round
          case rel => exact ⟨k + 1, by omega, by go_num, by rw [HT.out, HC.out]⟩
          case measure => simp [intOf]; omega
    · obtain rfl : k = n := by omega
      have e1 := Lib.hid (w32_not _ hb)
      have e2 : bs.take k = bs := List.take_of_length_le (by rw [HL.out]; exact Nat.le_refl _)
      rw [e2] at e1
      go_wp2
      go_ret
      exact ⟨ret_w32 e1.out, hg1⟩

set_option maxHeartbeats 400000 in
theorem crcsum_any (A : Option Addr) (n c : Nat) (bs : List UInt8) (w : World) (hl : bs.length = n) (hr : Lies w w.heap.size A (bs.map bv)) (hn : n ≤ 1000000000000) :
    Calls Tryd.prog 50 #[.slice A n c] w fun e w' => e = .returned (uv (crcOf bs)) ∧ Grows w w' := by
  have HL := Lib.hid hl
  clear hl
  go_enter Tryd.func50, Tryd.ntmps50
  go_wp2_with fail
  refine (crcmore_any 0 A n c bs w (by omega) HL.out hr hn).mono ?_
  rintro e w1 ⟨rfl, hg1⟩
  go_wp2_with fail
  go_ret
  exact ⟨rfl, hg1⟩

set_option maxHeartbeats 1000000 in
/-- The reference's More. -/
theorem rmore_any (s : Nat) (A : Option Addr) (n c : Nat) (bs : List UInt8) (w : World) (hs : s < 4294967296) (hl : bs.length = n) (hr : Lies w w.heap.size A (bs.map bv)) (hn : n ≤ 1000000000000) :
    Calls Tryd.prog 26 #[uv s, .slice A n c] w fun e w' => e = .returned (uv (cmore s bs)) ∧ w = w' := by
  have HL := Lib.hid hl
  clear hl
  have hs1 : (0 : Int) ≤ 4294967295 - (s : Int) := by omega
  have hs2 : IntKind.u32.wrap (4294967295 - (s : Int)) = ((4294967295 - s : Nat) : Int) := by rw [IntKind.wrap_u32']; omega
  go_enter Tryd.func26, Tryd.ntmps26
  go_wp2
  go_loop [5, 6, 7] (fun x i _ => ∃ k : Nat, k ≤ n ∧ i = .int .i64 k ∧ x = uv (cbytes (4294967295 - s) (bs.take k))) (fun _ i _ => n - (intOf i).toNat)
  case atStart => exact ⟨0, Nat.zero_le _, rfl, by simp [cbytes]⟩
  case round =>
    obtain ⟨k, hk, rfl, rfl⟩ := hrel
    have hb := cbytes_lt (bs.take k) (n := 4294967295 - s) (by omega)
    by_cases hlt : k < n
    · obtain ⟨b, hbk⟩ : ∃ b, bs[k]? = some b := ⟨_, List.getElem?_eq_getElem (by rw [HL.out]; exact hlt)⟩
      obtain ⟨ad, rfl, _, cx⟩ := hr.at_ (j := k) (u := bv b) (by rw [List.getElem?_map, hbk]; rfl)
      have HT := Lib.hid (cbytes_take (4294967295 - s) bs k b hbk)
      clear hbk
      generalize cbytes (4294967295 - s) (bs.take k) = x at *
      have hb8 := b.toNat_lt
      have hxo : bits .xor .u32 (x : Int) (b.toNat : Int) = ((x ^^^ b.toNat : Nat) : Int) := u32_xor_nat x b.toNat hb (by omega)
      have hy : x ^^^ b.toNat < 4294967296 := Nat.xor_lt_two_pow (n := 32) hb (by omega)
      have HC : Hid (cbyte x b = csteps 8 (x ^^^ b.toNat)) := rfl
      generalize hyy : x ^^^ b.toNat = y at *
      clear hyy
      go_wp2
      go_loop [5, 7] (fun x j => ∃ m : Nat, m ≤ 8 ∧ j = .int .i64 m ∧ x = uv (csteps m y)) (fun _ j => 8 - (intOf j).toNat)
      case atStart => exact ⟨0, by omega, rfl, rfl⟩
      case round =>
        obtain ⟨m, hm, rfl, rfl⟩ := hrel
        by_cases hmt : m < 8
        · have hz := csteps_lt m hy
          have hS := Lib.hid (csteps_succ m y)
          generalize csteps m y = z at *
          by_cases ho : z % 2 = 1
          · have hzo : bits .xor .u32 ((z : Int) / 2) 2197175160 = ((z / 2 ^^^ 2197175160 : Nat) : Int) := u32_xor_nat (z / 2) 2197175160 (by omega) (by omega)
            have hs : cstep z = z / 2 ^^^ 2197175160 := by unfold cstep; rw [if_pos ho]
            have HS := Lib.hid hs
            clear hs
            go_wp2
            go_round
            case rel => exact ⟨m + 1, by omega, by go_num, by rw [hS.out, HS.out]⟩
            case measure => simp [intOf]; omega
          · have hs : cstep z = z / 2 := by unfold cstep; rw [if_neg ho]
            have HS := Lib.hid hs
            clear hs
            go_wp2
            go_round
            case rel => exact ⟨m + 1, by omega, by go_num, by rw [hS.out, HS.out]; rfl⟩
            case measure => simp [intOf]; omega
        · obtain rfl : m = 8 := by omega
          go_wp2
          go_round
          case rel => exact ⟨k + 1, by omega, by go_num, by rw [HT.out, HC.out]⟩
          case measure => simp [intOf]; omega
    · obtain rfl : k = n := by omega
      have e2 : bs.take k = bs := List.take_of_length_le (by rw [HL.out]; exact Nat.le_refl _)
      rw [e2] at hb
      have e3 : IntKind.u32.wrap (4294967295 - (cbytes (4294967295 - s) bs : Int)) = ((cmore s bs : Nat) : Int) := by rw [IntKind.wrap_u32']; unfold cmore; omega
      go_wp2
      go_ret
      exact ⟨ret_w32 (by first | exact e3 | (unfold cmore; omega)), rfl⟩
end Go.Proofs.YtbcldknecdbemaaDoor

/-
  Laws for a walk (of no program): make with room, and copy into a row of the call's own, both in the words of an owned row.
-/
namespace Go.Proofs.YtbcldknecdbemaaDoor
open Go.RowKit
set_option linter.unusedVariables false
set_option maxRecDepth 20000

theorem made_one (z : Value) (n : Nat) : madeCells #[z] n = (List.replicate n z).toArray := by
  apply Array.ext
  · simp [madeCells]
  · intro i h1 h2
    simp [madeCells, Nat.mod_one]

section
variable {P : Program}
theorem run_make_room (base : Nat) (t e : TypeId) (i : TypeInfo) (z : Value) (ht : P.underlying t = some (.slice e)) (hi : P.info? e = some i) (hz : i.zero = some z) (hsize : i.size = 1) (hz1 : z.cells = #[z])
    (kl kc : IntKind) (n c : Nat) (hnc : n ≤ c) (hbytes : i.bytes * c ≤ 281474976710656) (h63 : c ≤ maxLen) (w : World) (hbase : base ≤ w.heap.size) :
    ∃ w', (Instr.makeSlice t (.int kl (n : Int)) (.int kc (c : Int))).run P w = .ok (.slice (some ⟨w.heap.size, 0, none⟩) n c) w' ∧
      w'.ownsRow base e 1 (.slice (some ⟨w.heap.size, 0, none⟩) n c) n (List.replicate n z) ∧ Grows w w' ∧ w'.heap.size = w.heap.size + 1 := by
  have h63' : (c : Int) ≤ 9223372036854775807 := by
    have h := h63
    simp [maxLen] at h
    omega
  have hb' : (i.bytes : Int) * (c : Int) ≤ 281474976710656 := by
    have h : ((i.bytes * c : Nat) : Int) ≤ 281474976710656 := by omega
    rwa [Int.natCast_mul] at h
  have hr := run_make (P := P) w t e i z ht hi hz kl kc n c (by omega) (by omega) hb' h63'
  rw [hsize, hz1, Int.toNat_natCast, Int.toNat_natCast, Nat.mul_one, made_one] at hr
  refine ⟨_, hr, ⟨by simp, .inr ⟨w.heap.size, c, (List.replicate c z).toArray, rfl, hbase, heap_alloc_new w _, hnc, h63, by simp, ?_⟩⟩, grows_alloc _ _, by simp⟩
  simp [List.take_replicate, Nat.min_eq_left hnc]

theorem wpList_make_room (w : World) {ops : Array Oper} {rest : List Oper} {o : Oper} {a : Act} {Q : Exit → Act → World → Prop} (hg : o.guard = none) (l c : Operand) (t : TypeId) (hop : o.op = Op.makeSlice t l c)
    (base : Nat) (e : TypeId) (i : TypeInfo) (z : Value) (ht : P.underlying t = some (.slice e)) (hi : P.info? e = some i) (hz : i.zero = some z) (hsize : i.size = 1) (hz1 : z.cells = #[z])
    (kl kc : IntKind) (x y : Int) (n m : Nat) (hl : a.eval l = .int kl x) (hc : a.eval c = .int kc y) (hx : x = (n : Int)) (hy : y = (m : Int)) (hnm : n ≤ m) (hbytes : i.bytes * m ≤ 281474976710656) (h63 : m ≤ maxLen) (hbase : base ≤ w.heap.size)
    (hK : ∀ w', w'.ownsRow base e 1 (.slice (some ⟨w.heap.size, 0, none⟩) n m) n (List.replicate n z) → Grows w w' → w'.heap.size = w.heap.size + 1 → wpList P ops Q rest (a.put o.dst (.slice (some ⟨w.heap.size, 0, none⟩) n m)) w') :
    wpList P ops Q (o :: rest) a w := by
  subst hx hy
  refine wpList_plain hg fun K hK' => ?_
  obtain ⟨w', hrun, h1, h2, h3⟩ := run_make_room (P := P) base t e i z ht hi hz hsize hz1 kl kc n m hnm hbytes h63 w hbase
  unfold Oper.wp
  simp [execOp, hop, hl, hc, hrun, Result.andThen]
  exact hK' _ _ (hK w' h1 h2 h3)

/-- copy(owned, source): what goes over. -/
theorem wpList_copy_row {w : World} {ops : Array Oper} {rest : List Oper} {o : Oper} {a : Act} {Q : Exit → Act → World → Prop} (hgd : o.guard = none) (d s : Operand) (dT sT : TypeId)
    (ho : o.op = .call { callee := .builtin .copy, args := #[d, s], argTypes := #[dT, sT] }) (e : TypeId) (hu : P.underlying dT = some (.slice e)) (hsz : (P.info? e).map (·.size) = some 1)
    (base : Nat) (v : Value) (n : Nat) (xs : List Value) (hd : a.eval d = v) (hown : w.ownsRow base e 1 v n xs)
    (B : Nat) (A : Option Addr) (m c : Nat) (news : List Value) (hs : a.eval s = .slice A m c) (hl : news.length = m) (hr : Lies w B A news) (h1 : ∀ u ∈ news, u.oneCell' = true) (w0 : World) (hb : Below base w0 w)
    (h : ∀ w', w'.ownsRow base e 1 v n (news.take n ++ xs.drop m) → Below base w0 w' → w'.heap.size = w.heap.size → wpList P ops Q rest (a.put o.dst (goInt ((min m n : Nat) : Int))) w') :
    wpList P ops Q (o :: rest) a w := by
  have hxl : xs.length = n := by have := hown.1; omega
  by_cases h0 : min m n = 0
  · obtain ⟨A', c', rfl, _⟩ := own_form hown
    refine wpList_copy_nothing hgd d s dT sT ho e hu hsz A' A n c' m c hd hs h0 ?_
    rw [h0] at h
    refine h w ?_ hb rfl
    have he : news.take n ++ xs.drop m = xs := by
      rcases Nat.min_eq_zero_iff.1 h0 with rfl | rfl
      · rw [List.eq_nil_of_length_eq_zero hl]; simp
      · rw [List.eq_nil_of_length_eq_zero hxl]; simp
    rw [he]
    exact hown
  · rcases hown.2 with ⟨_, rfl⟩ | ⟨g, cap, cur, rfl, hbg, hh, hnc, hm, hcs, htk⟩
    · simp at h0
    · obtain ⟨ad, rfl, _, _⟩ := hr 0 (news[0]'(by omega)) (List.getElem?_eq_getElem _)
      have hlen : (news.take n).length = min m n := by rw [List.length_take, hl, Nat.min_comm]
      have hfit : (news.take n).length ≤ cur.size := by rw [hlen]; omega
      refine wpList_copy_own hgd d s dT sT ho e hu hsz g 0 n cap ad m c hd hs cur e hh (news.take n) hlen (hr.take n).cells (by omega) (fun u hu => h1 u (List.mem_of_mem_take hu)) ?_
      rw [hlen]
      refine h _ ⟨by simp [hl, hxl]; omega, .inr ⟨g, cap, _, rfl, hbg, setRow_heap w g _ _ e _ hh, hnc, hm, ?_, ?_⟩⟩ (below_setRow hb hbg _) (by simp [World.setRow])
      · simp [hl]; omega
      · rw [Nat.mul_one] at htk ⊢
        simp only [List.take_zero, List.nil_append, Nat.zero_add]
        rw [List.take_append, List.take_of_length_le (by rw [hlen]; omega), hlen, ← htk, List.drop_take]
        congr 1
        by_cases hmn : m ≤ n
        · rw [Nat.min_eq_left hmn]
        · rw [Nat.min_eq_right (by omega), Nat.sub_self, show n - m = 0 by omega, List.take_zero, List.take_zero]
end

/-- A row of the call's own that is not empty: where it lies, and that it may be written. -/
theorem own_has {w : World} {base : Nat} {e : TypeId} {v : Value} {n : Nat} {vs : List Value} (h : w.ownsRow base e 1 v n vs) (hn : 0 < n) : ∃ g c, v = .slice (some ⟨g, 0, none⟩) n c ∧ n ≤ c ∧ c ≤ maxLen ∧ base ≤ g ∧ Has w g vs := by
  have h0 := h
  rcases h.2 with ⟨_, h'⟩ | ⟨g, cap, cur, rfl, hb, hg, hnc, hm, _⟩
  · omega
  · refine ⟨g, cap, rfl, hnc, hm, hb, ?_, fun j u hu => ?_, fun j => frozen_of_row w g j cur e hg⟩
    · rcases Nat.lt_or_ge g w.heap.size with hlt | hge
      · exact hlt
      · rw [Array.getElem?_eq_none hge] at hg; cases hg
    · obtain ⟨ad, e, _, hc⟩ := Lies.of_own h0 j u hu
      injection e with e
      subst e
      rwa [add_plain] at hc
end Go.Proofs.YtbcldknecdbemaaDoor

/-
  Cuts of a slice whose elements have one cell (of no program): b[:m], b[m:], b[l:h], and what lies there.
-/
namespace Go.Proofs.YtbcldknecdbemaaDoor
open Go.RowKit
set_option linter.unusedVariables false
set_option maxRecDepth 20000
set_option linter.unusedSectionVars false

theorem add_zero_addr (a : Addr) : a.add 0 = a := by simp [Addr.add]
theorem add_add_addr (a : Addr) (i j : Nat) : (a.add i).add j = a.add (i + j) := by
  by_cases hi : i = 0 <;> by_cases hj : j = 0 <;> simp [Addr.add, hi, hj, Nat.add_assoc]
theorem map_add_zero (A : Option Addr) : A.map (·.add 0) = A := by cases A <;> simp [add_zero_addr]

theorem Lies.from_ {w : World} {B : Nat} {A : Option Addr} {vs : List Value} (h : Lies w B A vs) (m : Nat) : Lies w B (A.map (·.add m)) (vs.drop m) := fun j u hu => by
  rw [List.getElem?_drop] at hu
  obtain ⟨ad, rfl, hb, hc⟩ := h (m + j) u hu
  exact ⟨ad.add m, rfl, by rw [add_block]; exact hb, by rw [add_add_addr]; exact hc⟩

section
variable {P : Program} {t e : TypeId} (ht : P.underlying t = some (.slice e)) (hs : (P.info? e).map (·.size) = some 1) (A : Option Addr) (n c m : Nat) (k : IntKind)
include ht hs
theorem elem_of : P.elem t = e := by unfold Program.elem; simp [ht]
theorem size_of_elem (u : World) : (sizeOf (P.elem t)).run P u = .ok 1 u := by
  obtain ⟨i, hi, h1⟩ := Option.map_eq_some_iff.1 hs
  rw [elem_of ht hs]
  simp [sizeOf, typeInfo, hi, h1]
theorem run_cut_to (h : m ≤ c) (u : World) : (Instr.sliceAt t (.slice A n c) none (some (.int k (m : Int))) none).run P u = .ok (.slice A m c) u := by
  have ht' : P.underlying t = some (.slice (P.elem t)) := by rw [elem_of ht hs]; exact ht
  rw [run_sliceAt_slice u t _ _ _ _ ht', run_slice_h u t A n c ht' k m (by omega) (by omega), size_of_elem ht hs]
  simp [Result.andThen, sliced, map_add_zero]
theorem run_cut_from (h : m ≤ n) (hc : m < c) (u : World) : (Instr.sliceAt t (.slice A n c) (some (.int k (m : Int))) none none).run P u = .ok (.slice (A.map (·.add m)) (n - m) (c - m)) u := by
  have ht' : P.underlying t = some (.slice (P.elem t)) := by rw [elem_of ht hs]; exact ht
  rw [run_sliceAt_slice u t _ _ _ _ ht', run_slice_l u t A n c ht' k m (by omega) (by omega), size_of_elem ht hs]
  simp [Result.andThen, sliced, show ¬ c = m by omega]
end

/-- A cut, as one operation of a region that draws its order. -/
theorem exec_slice {P : Program} {o : Oper} {a : Act} {u : World} {t : TypeId} {x : Operand} {lo hi mx : Option Operand} {v : Value} (ho : o.op = .slice t x lo hi mx)
    (h : (Instr.sliceAt t (a.eval x) (lo.map a.eval) (hi.map a.eval) (mx.map a.eval)).run P u = .ok v u) : (execOp a.eval o).run P u = .ok (.value v) u := by
  unfold execOp
  simp only [ho, Sem.run_bind, h, Result.andThen_ok, Sem.run_pure]
theorem ord_cut {P : Program} {Q : Exit → Act → World → Prop} {l : List Oper} {E : Act → World → Prop} {w0 w : World} {i : Nat} {s : List (Nat × Bool)} {a : Act} (h0 : Grows w0 w) (o : Oper) (v : Value) (ho : l[i]? = some o)
    (hw : Region.wanted o (yielded l.toArray a.tmps) = true) (t : TypeId) (x : Operand) (lo hi mx : Option Operand) (hop : o.op = .slice t x lo hi mx)
    (hy : ∀ u, (Instr.sliceAt t (a.eval x) (lo.map a.eval) (hi.map a.eval) (mx.map a.eval)).run P u = .ok v u)
    (h : wpOrd P l.toArray Q E s (a.put o.dst v) w) : wpOrd P l.toArray Q E ((i, true) :: s) a w :=
  ord_take h0 o v ho hw (fun u hu _ => exec_slice hop (hy u)) h
theorem wpList_cut {P : Program} {w : World} {ops : Array Oper} {rest : List Oper} {o : Oper} {a : Act} {Q : Exit → Act → World → Prop} (hgd : o.guard = none) (t : TypeId) (x : Operand) (lo hi mx : Option Operand) (hop : o.op = .slice t x lo hi mx)
    (v : Value) (hy : (Instr.sliceAt t (a.eval x) (lo.map a.eval) (hi.map a.eval) (mx.map a.eval)).run P w = .ok v w) (h : wpList P ops Q rest (a.put o.dst v) w) : wpList P ops Q (o :: rest) a w := by
  refine wpList_plain hgd fun K hK => ?_
  unfold Oper.wp
  rw [exec_slice hop hy]
  exact hK _ _ h
end Go.Proofs.YtbcldknecdbemaaDoor

/-
  Contracts of crc's Put, number and Take, and of the reference's Put and Take.
-/
namespace Go.Proofs.YtbcldknecdbemaaDoor
open Go.RowKit
set_option linter.unusedVariables false
set_option maxRecDepth 20000

/-- Four bytes of a number, the lowest one first. -/
def fourC (s : Nat) : List UInt8 := (List.range 4).map fun k => UInt8.ofNat (s / 2 ^ (8 * k))
theorem four_len (s : Nat) : (fourC s).length = 4 := by simp [fourC]
theorem four_take (s k : Nat) (hk : k < 4) : (fourC s).take (k + 1) = (fourC s).take k ++ [UInt8.ofNat (s / 2 ^ (8 * k))] := by
  rw [List.take_add_one]
  simp [fourC, hk]

set_option maxHeartbeats 1000000 in
theorem cput_any (A : Option Addr) (n c : Nat) (bs : List UInt8) (w : World) (hl : bs.length = n) (hr : Lies w w.heap.size A (bs.map bv)) (hn : n ≤ 1000000000000) :
    Calls Tryd.prog 57 #[.slice A n c] w fun e w' => ∃ v, e = .returned v ∧ w'.ownsRow w.heap.size 5 1 v (n + 4) ((bs ++ fourC (crcOf bs)).map bv) ∧ Grows w w' := by
  obtain ⟨i0, hi0, hz0, hz1, hz2⟩ := info_parts byte_info
  have HL := Lib.hid hl
  clear hl
  have hs := cmore_lt (s := 0) (by omega) bs
  go_enter Tryd.func57, Tryd.ntmps57
  go_wp2_with (first
    | (at_make; refine wpList_make_room _ rfl _ _ _ rfl w.heap.size 5 i0 _ Tryd.underlying22 hi0 hz0 hz1 rfl .i64 .i64 _ _ n (n + 4) rfl rfl (by omega) (by omega) (by omega) (by rw [hz2]; omega) (by unfold maxLen; omega) (Nat.le_refl _) ?_; intro w1 hown1 hg1 hsz1)
    | (refine wpList_copy_row rfl (.tmp 12) (.tmp 13) 22 22 rfl 5 Tryd.underlying22 (by rw [hi0]; exact congrArg some hz1) w.heap.size (.slice (some ⟨w.heap.size, 0, none⟩) n (n + 4)) n _ rfl hown1 w.heap.size A n c (bs.map bv) rfl (by rw [List.length_map]; exact HL.out) (hr.below hg1) (bv_one bs) w hg1 ?_; intro w2 hown2 hg2 hsz2))
  have e1 : (bs.map bv).take n ++ (List.replicate n (Value.int .u8 0)).drop n = bs.map bv := by
    rw [List.take_of_length_le (by rw [List.length_map, HL.out]; exact Nat.le_refl _)]; simp
  rw [e1] at hown2
  clear e1
  refine (crcsum_any A n c bs w2 HL.out (hr.later hg2) hn).mono ?_
  rintro e w3 ⟨rfl, hg3⟩
  have hown3 := own_later hown2 hg3
  have hg13 := Grows.trans hg2 hg3
  clear hown1 hown2 hg1 hg2 hg3 hsz1 hsz2 hr
  have hs' : crcOf bs < 4294967296 := hs
  generalize hsx : crcOf bs = s at *
  have HSX := Lib.hid hsx
  clear hsx
  go_wp2_with fail
  go_loopw [3, 17] (fun v i wr => ∃ k : Nat, k ≤ 4 ∧ i = .int .i64 k ∧ wr.ownsRow w.heap.size 5 1 v (n + k) ((bs ++ (fourC s).take k).map bv) ∧ Grows w wr) (fun _ i _ => 4 - (intOf i).toNat)
  case atStart => exact ⟨0, by omega, rfl, by simpa using hown3, hg13⟩
  case round =>
    clear hown3 hg13
    obtain ⟨k, hk, rfl, hown, hgr⟩ := hrel
    by_cases hlt : k < 4
    · have HF := Lib.hid (four_take s k hlt)
      have hnew := Lies.new wr 5 [bv (UInt8.ofNat (s / 2 ^ (8 * k)))]
      go_wp2_with (at_builtin; refine wpList_append_src _ rfl (.tmp 20) (.tmp 26) _ rfl w.heap.size 5 i0 _ 1 Tryd.underlying22 hi0 hz0 hz1 hz2 rfl _ (n + k) _ rfl (hown.alloc _) _ _ 1 1 [bv (UInt8.ofNat (s / 2 ^ (8 * k)))] rfl rfl hnew (by simp [Value.oneCell']) (by unfold maxLen; omega) (by omega) (by rw [World.size_alloc]; have := hgr.size; omega) ?_; intro v' w' hown' hg' hat')
      have hb2 : Below w.heap.size wr w' := ((Below.refl _ wr).alloc hgr.size _).grown hg' (by rw [World.size_alloc]; have := hgr.size; omega) (own_ge hown)
      rw [show [bv (UInt8.ofNat (s / 2 ^ (8 * k)))] = [UInt8.ofNat (s / 2 ^ (8 * k))].map bv from rfl, ← List.map_append, List.append_assoc, ← HF.out] at hown'
      go_roundw
      case rel => exact ⟨k + 1, by omega, by go_num, hown', Below.trans hgr hb2⟩
      case measure => simp [intOf]; omega
    · obtain rfl : k = 4 := by omega
      go_wp2
      go_ret
      rw [List.take_of_length_le (by rw [four_len]; exact Nat.le_refl _)] at hown
      exact ⟨_, rfl, by rw [HSX.out]; exact hown, hgr⟩

/-- What fourC bytes tell, as far as k. -/
def numTo (l : List UInt8) : Nat → Nat
  | 0 => 0
  | k + 1 => numTo l k + (l.getD k 0).toNat * 2 ^ (8 * k)
theorem numTo_lt (l : List UInt8) : ∀ k, numTo l k < 2 ^ (8 * k)
  | 0 => by simp [numTo]
  | k + 1 => by
    have ih := numTo_lt l k
    have hb := (l.getD k 0).toNat_lt
    rw [numTo, show 8 * (k + 1) = 8 * k + 8 by omega, Nat.pow_add]
    generalize (l.getD k 0).toNat = b at *
    generalize 2 ^ (8 * k) = p at *
    have : b * p ≤ 255 * p := Nat.mul_le_mul_right _ (by omega)
    omega

theorem or_place (x b k : Nat) (hk : k < 4) (hx : x < 2 ^ (8 * k)) (hb : b < 256) : bits .or .u32 (x : Int) ((b : Int) * 2 ^ (8 * k) % 4294967296) = ((x + b * 2 ^ (8 * k) : Nat) : Int) := by
  have hp : 2 ^ (8 * k) * 256 ≤ 4294967296 := by
    have : 2 ^ (8 * k) * 256 = 2 ^ (8 * k + 8) := by rw [Nat.pow_add]
    rw [this]
    exact Nat.pow_le_pow_right (n := 2) (by omega) (show 8 * k + 8 ≤ 32 by omega)
  have h1 : b * 2 ^ (8 * k) < 4294967296 := by
    have : b * 2 ^ (8 * k) ≤ 255 * 2 ^ (8 * k) := Nat.mul_le_mul_right _ (by omega)
    have : 0 < 2 ^ (8 * k) := Nat.two_pow_pos _
    omega
  have e1 : (b : Int) * 2 ^ (8 * k) % 4294967296 = ((b * 2 ^ (8 * k) : Nat) : Int) := by
    have : (b : Int) * 2 ^ (8 * k) = ((b * 2 ^ (8 * k) : Nat) : Int) := by simp
    rw [this]
    omega
  have h2 : x < 4294967296 := by omega
  rw [e1, u32_or_nat _ _ h2 h1]
  congr 1
  rw [Nat.or_comm, ← Nat.shiftLeft_eq, ← Nat.shiftLeft_add_eq_or_of_lt hx, Nat.add_comm]

set_option maxHeartbeats 1000000 in
theorem number_any (A : Option Addr) (c : Nat) (l : List UInt8) (w : World) (hl : l.length = 4) (hr : Lies w w.heap.size A (l.map bv)) :
    Calls Tryd.prog 49 #[.slice A 4 c] w fun e w' => e = .returned (uv (numTo l 4)) ∧ w = w' := by
  have HL := Lib.hid hl
  clear hl
  go_enter Tryd.func49, Tryd.ntmps49
  go_wp2
  go_loop [3, 5] (fun x i => ∃ k : Nat, k ≤ 4 ∧ i = .int .i64 k ∧ x = uv (numTo l k)) (fun _ i => 4 - (intOf i).toNat)
  case atStart => exact ⟨0, by omega, rfl, rfl⟩
  case round =>
    obtain ⟨k, hk, rfl, rfl⟩ := hrel
    by_cases hlt : k < 4
    · obtain ⟨b, hbk⟩ : ∃ b, l[k]? = some b := ⟨_, List.getElem?_eq_getElem (by rw [HL.out]; exact hlt)⟩
      obtain ⟨ad, rfl, _, cx⟩ := hr.at_ (j := k) (u := bv b) (by rw [List.getElem?_map, hbk]; rfl)
      have HS : Hid (numTo l (k + 1) = numTo l k + b.toNat * 2 ^ (8 * k)) := by show _ = _; rw [numTo, List.getD, hbk]; rfl
      have hx := numTo_lt l k
      clear hbk
      generalize numTo l k = x at *
      have hb8 := b.toNat_lt
      go_wp2
      go_round
      case rel => exact ⟨k + 1, by omega, by go_num, by rw [HS.out, or_place x b.toNat k hlt hx hb8]⟩
      case measure => simp [intOf]; omega
    · obtain rfl : k = 4 := by omega
      go_wp2
      go_ret
      exact ⟨rfl, rfl⟩

theorem num_inj (l : List UInt8) (s : Nat) (hl : l.length = 4) (hs : s < 4294967296) : numTo l 4 = s ↔ l = fourC s := by
  match l, hl with
  | [a, b, c, d], _ =>
    have ha := a.toNat_lt
    have hb := b.toNat_lt
    have hc := c.toNat_lt
    have hd := d.toNat_lt
    have e1 : numTo [a, b, c, d] 4 = a.toNat + b.toNat * 256 + c.toNat * 65536 + d.toNat * 16777216 := by simp [numTo]
    have e2 : fourC s = [UInt8.ofNat s, UInt8.ofNat (s / 256), UInt8.ofNat (s / 65536), UInt8.ofNat (s / 16777216)] := by simp [fourC, List.range, List.range.loop]
    rw [e1, e2]
    constructor
    · intro h
      have g1 : a = UInt8.ofNat s := by apply UInt8.toNat_inj.1; rw [UInt8.toNat_ofNat']; omega
      have g2 : b = UInt8.ofNat (s / 256) := by apply UInt8.toNat_inj.1; rw [UInt8.toNat_ofNat']; omega
      have g3 : c = UInt8.ofNat (s / 65536) := by apply UInt8.toNat_inj.1; rw [UInt8.toNat_ofNat']; omega
      have g4 : d = UInt8.ofNat (s / 16777216) := by apply UInt8.toNat_inj.1; rw [UInt8.toNat_ofNat']; omega
      rw [g1, g2, g3, g4]
    · intro h
      injection h with h1 h
      injection h with h2 h
      injection h with h3 h
      injection h with h4 h
      subst h1 h2 h3 h4
      simp only [UInt8.toNat_ofNat']
      omega

theorem number_g (A : Option Addr) (c : Nat) {x : Nat} {l : List UInt8} (hx : Hid (numTo l 4 = x)) (w : World) (hl : l.length = 4) (hr : Lies w w.heap.size A (l.map bv)) :
    Calls Tryd.prog 49 #[.slice A 4 c] w fun e w' => e = .returned (uv x) ∧ Grows w w' := by
  have h := hx.out
  subst h
  exact (number_any A c l w hl hr).mono fun e w' ⟨he, hw⟩ => ⟨he, by subst hw; exact Grows.refl _⟩
theorem sum_g (A : Option Addr) (n c : Nat) {s : Nat} {l : List UInt8} (hx : Hid (crcOf l = s)) (w : World) (hl : l.length = n) (hr : Lies w w.heap.size A (l.map bv)) (hn : n ≤ 1000000000000) :
    Calls Tryd.prog 50 #[.slice A n c] w fun e w' => e = .returned (uv s) ∧ Grows w w' := by
  have h := hx.out
  subst h
  exact crcsum_any A n c l w hl hr hn

/-- What Take answers: the bytes, and the error's number. -/
def takeOf (l : List UInt8) : List UInt8 × Nat :=
  if l.length < 4 then ([], 2) else if l.drop (l.length - 4) = fourC (crcOf (l.take (l.length - 4))) then (l.take (l.length - 4), 0) else ([], 7)

theorem byte_one : (Tryd.prog.info? 5).map (·.size) = some 1 := by kernel_rfl

set_option maxHeartbeats 1000000 in
theorem take_any (A : Option Addr) (n c : Nat) (bs : List UInt8) (w : World) (hl : bs.length = n) (hr : Lies w w.heap.size A (bs.map bv)) (hc : n ≤ c) (hn : n ≤ 1000000000000) :
    Calls Tryd.prog 27 #[.slice A n c] w fun e w' => ∃ A' c', e = .returned (.tuple #[.slice A' (takeOf bs).1.length c', .int .i64 ((takeOf bs).2 : Int)]) ∧ Lies w' w'.heap.size A' ((takeOf bs).1.map bv) ∧ Grows w w' := by
  obtain ⟨i0, hi0, hz0, hz1, hz2⟩ := info_parts byte_info
  by_cases h4 : n < 4
  · have ht : takeOf bs = ([], 2) := by unfold takeOf; rw [if_pos (by omega)]
    rw [ht]
    clear ht
    go_enter Tryd.func27, Tryd.ntmps27
    go_wp2
    go_ret2
    exact ⟨none, 0, rfl, Lies.empty, Grows.refl _⟩
  · obtain ⟨m, rfl⟩ : ∃ m, n = m + 4 := ⟨n - 4, by omega⟩
    have HB := Lib.hid hl
    clear hl h4
    have hm4 : ((m + 4 : Nat) : Int) - 4 = (m : Int) := by omega
    have ct := run_cut_to (P := Tryd.prog) Tryd.underlying22 byte_one A (m + 4) c m .i64 (by omega)
    have cf := run_cut_from (P := Tryd.prog) Tryd.underlying22 byte_one A (m + 4) c m .i64 (by omega) (by omega)
    rw [show m + 4 - m = 4 by omega] at cf
    have hrt : Lies w w.heap.size A ((bs.take m).map bv) := by rw [List.map_take]; exact hr.take m
    have hrf : Lies w w.heap.size (A.map (·.add m)) ((bs.drop m).map bv) := by rw [List.map_drop]; exact hr.from_ m
    have HT : Hid ((bs.take m).length = m) := by show _ = _; rw [List.length_take, HB.out]; omega
    have HF : Hid ((bs.drop m).length = 4) := by show _ = _; rw [List.length_drop, HB.out]; omega
    have hs : crcOf (bs.take m) < 4294967296 := cmore_lt (s := 0) (by omega) _
    have HN := Lib.hid (num_inj (bs.drop m) (crcOf (bs.take m)) HF.out hs)
    have HTK : Hid (takeOf bs = if bs.drop m = fourC (crcOf (bs.take m)) then (bs.take m, 0) else ([], 7)) := by
      show _ = _
      unfold takeOf
      rw [HB.out, if_neg (by omega), show m + 4 - 4 = m by omega]
    have HCT := Lib.hid ct
    have HCF := Lib.hid cf
    clear ct cf
    go_enter Tryd.func27, Tryd.ntmps27
    go_wp2_with fail
    refine wp_region_ord 9 [(0, true), (1, true), (2, true), (3, true), (4, true), (5, true), (6, true), (7, true), (8, true)] (by kernel_rfl) (by kernel_rfl) ?_
    have hgd : Grows w w.drew := (Grows.refl w).drew
    have hLT := Lib.hid (hrt.later hgd)
    have hLF := Lib.hid (hrf.later hgd)
    have HGD := Lib.hid hgd
    have ct := HCT.out
    have cf := HCF.out
    have hO := Grows.refl w.drew
    clear hrt hrf hgd
    generalize hs0 : crcOf (bs.take m) = s at *
    have HS0 := Lib.hid hs0
    clear hs0
    generalize hx0 : numTo (bs.drop m) 4 = x at *
    have HX0 := Lib.hid hx0
    clear hx0
    repeat (first | (refine ord_cut hO _ ?_ (by simp only [List.getElem?_cons_succ, List.getElem?_cons_zero]; rfl) (by rfl) 22 (.tmp 15) none (some (.tmp 16)) none (by rfl) ?_ ?_; rotate_left; (· (exact ct)); try simp only [Act.put, List.setIfInBounds_toArray, List.set_cons_zero, List.set_cons_succ]) | (refine ord_cut hO _ ?_ (by simp only [List.getElem?_cons_succ, List.getElem?_cons_zero]; rfl) (by rfl) 22 (.tmp 11) (some (.tmp 12)) none none (by rfl) ?_ ?_; rotate_left; (· (exact cf)); try simp only [Act.put, List.setIfInBounds_toArray, List.set_cons_zero, List.set_cons_succ]) | (refine ord_take hO _ ?_ (by simp only [List.getElem?_cons_succ, List.getElem?_cons_zero]; rfl) (by rfl) ?_ ?_; rotate_left; (· (intro u hu0 hu; (try go_simp); (try with_reducible rfl))); try simp only [Act.put, List.setIfInBounds_toArray, List.set_cons_zero, List.set_cons_succ]) | (refine ord_skip _ (by simp only [List.getElem?_cons_succ, List.getElem?_cons_zero]; rfl) (by rfl) ?_; try simp only [Act.put, List.setIfInBounds_toArray, List.set_cons_zero, List.set_cons_succ]) | (refine ord_call hO _ ?_ (by simp only [List.getElem?_cons_succ, List.getElem?_cons_zero]; rfl) (by rfl) ?_ ?_; rotate_left; (· (intro u hu0 hu; go_simp; (try refine quiet_enter ?_); (first | exact number_g _ _ HX0 _ HF.out (hLF.out.later hu0) | exact sum_g _ _ _ HS0 _ HT.out (hLT.out.later hu0) (by omega)))); try simp only [Act.put, List.setIfInBounds_toArray, List.set_cons_zero, List.set_cons_succ]))
    clear hO ct cf HCT HCF
    (refine ord_done (fun u hu => ?_); simp only [List.drop_succ_cons, List.drop_zero])
    have hgu := Grows.trans HGD.out hu
    have hru := hr.later hgu
    clear hLT hLF HGD hr hu
    by_cases hxs : x = s
    · have HK : Hid (takeOf bs = (bs.take m, 0)) := by show _ = _; rw [HTK.out, if_pos (HN.out.1 hxs)]
      have hq : ((x : Int) != (s : Int)) = false := by simp [hxs]
      clear HTK HN HX0 HS0 hxs
      refine NoPanic.normal ?_
      go_wp2_with (first
        | (at_make; refine wpList_make_room _ rfl _ _ _ rfl u.heap.size 5 i0 _ Tryd.underlying22 hi0 hz0 hz1 rfl .i64 .i64 _ _ m m rfl rfl (by omega) (by omega) (Nat.le_refl _) (by rw [hz2]; omega) (by unfold maxLen; omega) (Nat.le_refl _) ?_; intro w1 hown1 hg1 hsz1)
        | (refine wpList_copy_row rfl (.tmp 22) (.tmp 23) 22 22 rfl 5 Tryd.underlying22 byte_one u.heap.size (.slice (some ⟨u.heap.size, 0, none⟩) m m) m _ rfl hown1 u.heap.size A (m + 4) c (bs.map bv) rfl (by rw [List.length_map]; exact HB.out) (hru.below hg1) (bv_one bs) u hg1 ?_; intro w2 hown2 hg2 hsz2))
      have e1 : (bs.map bv).take m ++ (List.replicate m (Value.int .u8 0)).drop (m + 4) = (bs.take m).map bv := by
        rw [List.drop_eq_nil_of_le (by simp), List.append_nil, List.map_take]
      rw [e1] at hown2
      have hg02 := Grows.trans hgu hg2
      have hL2 := Lies.of_own hown2
      go_ret2
      rw [HK.out]
      exact ⟨_, m, by rw [HT.out]; rfl, hL2, hg02⟩
    · have HK : Hid (takeOf bs = ([], 7)) := by show _ = _; rw [HTK.out, if_neg (fun h => hxs (HN.out.2 h))]
      have hq : ((x : Int) != (s : Int)) = true := by simp; omega
      clear HTK HN HX0 HS0 hxs
      refine NoPanic.normal ?_
      go_wp2_with fail
      go_ret2
      rw [HK.out]
      exact ⟨none, 0, rfl, Lies.empty, hgu⟩
end Go.Proofs.YtbcldknecdbemaaDoor
