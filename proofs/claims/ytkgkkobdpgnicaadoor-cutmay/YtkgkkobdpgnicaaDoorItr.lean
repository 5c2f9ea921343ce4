/-
  Iterators that keep memory of their own (of no program): the contract of a function that is ranged over, and the law of the loop. The blocks from the entry's heap on below a mark m are the iterator's; a round may turn the blocks of O, and what is new from m on.
-/
import Derived.Test.YtkgkkobdpgnicaaDoorTur
import Derived.RangeFuncNested
import Derived.RangeFuncBound
import Derived.RangeFuncCalls
import Derived.RangeFuncLeaves
namespace Go.Proofs.YtkgkkobdpgnicaaDoor
open Go.RowKit
set_option linter.unusedVariables false
set_option linter.unusedSectionVars false

/-- What a round may turn. -/
def Rnd (O : Nat → Prop) (m : Nat) (k : Nat) : Prop := O k ∨ m ≤ k
/-- What the iterator may turn. -/
def Itn (n m : Nat) (k : Nat) : Prop := n ≤ k ∧ k < m
/-- The contract of an iterator that is entered in the world W: it goes through xs; A m W0 W x v: in W, grown from W0 where the loop's own word held, the value v is x. -/
def SeqAt {α : Type} (P : Program) (g : Nat) (lb : Array Value) (A : Nat → World → World → α → Value → Prop) (xs : List α) (O : Nat → Prop) (W : World) : Prop :=
  ∀ (l : Nat) (J Jx : Nat → List α → World → Prop),
    (∀ m pre A' B', J m pre A' → Turns (Itn W.heap.size m) A' B' → J m pre B') →
    (∀ m pre A' B', Jx m pre A' → Turns (Itn W.heap.size m) A' B' → Jx m pre B') →
    (∀ m pre x v W0 W1, W.heap.size ≤ m → m ≤ W0.heap.size → J m pre W0 → Grows W0 W1 → (pre ++ [x]) <+: xs → A m W0 W1 x v →
      YieldAt Fence.wide 0 P l #[v] W1 fun e W' =>
        (e = .returned (.bool true) ∧ J m (pre ++ [x]) W' ∧ Turns (Rnd O m) W1 W') ∨ (e = .returned (.bool false) ∧ Jx m (pre ++ [x]) W' ∧ Turns (Rnd O m) W1 W')) →
    (∀ m W1, W.heap.size ≤ m → m ≤ W1.heap.size → Grows W W1 → J m [] W1) →
    CallsIn Fence.wide 0 P g (#[.func (.yield l) #[] #[]] ++ lb) W fun e W' => (∃ v, e = .returned v) ∧ ∃ m, W.heap.size ≤ m ∧ m ≤ W'.heap.size ∧ (J m xs W' ∨ ∃ pre, pre <+: xs ∧ Jx m pre W')
/-- .. in any world that has grown from w; Inp: the blocks that it reads. -/
def SeqOf {α : Type} (P : Program) (g : Nat) (lb : Array Value) (A : Nat → World → World → α → Value → Prop) (xs : List α) (Inp : Nat → Prop) (w : World) : Prop :=
  ∀ (O : Nat → Prop) (W : World), Grows w W → (∀ k, Inp k → ¬ O k) → (∀ k, O k → k < W.heap.size) → SeqAt P g lb A xs O W
theorem SeqOf.later {α : Type} {P : Program} {g : Nat} {lb : Array Value} {A : Nat → World → World → α → Value → Prop} {xs : List α} {Inp : Nat → Prop} {w w' : World}
    (h : SeqOf P g lb A xs Inp w) (hg : Grows w w') : SeqOf P g lb A xs Inp w' := fun O W hW hO hl => h O W (Grows.trans hg hW) hO hl

theorem turns_putObj {S : Nat → Prop} (w : World) (l : Nat) (o : Obj) (hl : S l) : Turns S w (w.putObj l o) :=
  Turns.of_by (grownBy_putObj' w l o) fun g e _ => by cases e; exact hl

/-- How the body of a round may be left. -/
def rndPost {α : Type} (O : Nat → Prop) (m : Nat) (I : Nat → List α → World → Prop) (Ix : Nat → Code → List α → World → Prop) (xs : List α) (W : World) : Exit → Act → World → Prop
  | .normal, _, W' => Turns (Rnd O m) W W' ∧ I m xs W'
  | .ret, _, W' => Turns (Rnd O m) W W' ∧ Ix m .ret xs W'
  | .exit id, _, W' => Turns (Rnd O m) W W' ∧ Ix m (.exit id) xs W'
  | .goto t, _, W' => Turns (Rnd O m) W W' ∧ Ix m (.goto t) xs W'
  | .panic _, _, _ => False
  | .outgrown, _, _ => False

/-- The law of the loop. -/
theorem wp_range {α : Type} {P : Program} {g : Operand} {ps : Array Tmp} {assign body : Code} {Q : Exit → Act → World → Prop} {a : Act} {w : World}
    {gf : Nat} {lb : Array Value} (hg : a.eval g = .func (.func gf) #[] lb) (eg : ∀ args w, (callFunc gf args).run P w = .ok (.enter gf args) w) (hps : ps.size = 1)
    {A : Nat → World → World → α → Value → Prop} {xs : List α} {Inp : Nat → Prop} (hseq : SeqOf P gf lb A xs Inp w) (hInp : ∀ k, Inp k → k < w.heap.size)
    (O : Nat → Prop) (hO : ∀ k, Inp k → ¬ O k) (hOl : ∀ k, O k → k < w.heap.size)
    (I : Nat → List α → World → Prop) (Ix : Nat → Code → List α → World → Prop)
    (hI : ∀ m pre A' B', I m pre A' → Turns (Itn w.heap.size m) A' B' → I m pre B') (hIx : ∀ m c pre A' B', Ix m c pre A' → Turns (Itn w.heap.size m) A' B' → Ix m c pre B')
    (h0 : ∀ m W1, w.heap.size ≤ m → m ≤ W1.heap.size → Grows w W1 → I m [] W1) (a₁ : Value → Act)
    (hassign : ∀ (l : Nat) (v : Value) (W : World) (K : Act → World → Prop), K (a₁ v) W →
      assign.wpIn (Fence.wide.inRound l) 0 P (Exit.then K (fun _ _ _ => False)) { tmps := (ps.zip #[v]).foldl (fun t (p, v) => t.setIfInBounds p v) a.tmps, defers := [] } W)
    (hA : ∀ m W0 x v A' B', w.heap.size + 2 ≤ m → m ≤ W0.heap.size → A m W0 A' x v → Turns (Itn w.heap.size (w.heap.size + 2)) A' B' → A m W0 B' x v)
    (hbody : ∀ (l m : Nat) (pre : List α) (x : α) (v : Value) (W0 W : World), w.heap.size + 2 ≤ m → m ≤ W0.heap.size → I m pre W0 → I m pre W → Turns (Itn w.heap.size (w.heap.size + 2)) W0 W → (pre ++ [x]) <+: xs → A m W0 W x v →
      body.wpIn (Fence.wide.inRound l) 0 P (rndPost O m I Ix (pre ++ [x]) W) (a₁ v) W)
    (hdone : ∀ (D m : Nat) (W : World), w.heap.size + 2 ≤ m → m ≤ W.heap.size → D = w.heap.size → I m xs W → W.heap[D]? = some (.deferred (some [])) → Q .normal { a with defers := { target := .collected D, args := #[] } :: a.defers } W)
    (hstop : ∀ (D m : Nat) (c : Code) (pre : List α) (W : World), w.heap.size + 2 ≤ m → m ≤ W.heap.size → D = w.heap.size → pre <+: xs → Ix m c pre W → W.heap[D]? = some (.deferred (some [])) → c.wpIn Fence.wide 0 P Q { a with defers := { target := .collected D, args := #[] } :: a.defers } W) :
    (Code.rangeFunc g ps assign body).wpIn Fence.wide 0 P Q a w := by
  refine wpIn_rangeFunc ?_
  intro fn hfn
  obtain ⟨rec, hrec⟩ : ∃ rec : LoopState → Option Code → Loop, rec = fun st pe => { state := st, pending := pe, fn, tmps := a.tmps, params := ps, assign, body, defers := w.heap.size } := ⟨_, rfl⟩
  obtain ⟨W1, hW1⟩ : ∃ W1, (w.alloc (.deferred (some []))).alloc (.loop (rec .ready none)) = W1 := ⟨_, rfl⟩
  have hL1 : W1.heap[w.heap.size + 1]? = some (.loop (rec .ready none)) := by
    rw [← hW1]; have := World.alloc_heap_new (w.alloc (.deferred (some []))) (.loop (rec .ready none)); rwa [World.size_alloc] at this
  have hK1 : W1.heap[w.heap.size]? = some (.deferred (some [])) := by
    rw [← hW1]; exact (Below.heap_alloc _ _ _ (by simp)).trans (World.alloc_heap_new w _)
  have hs1 : W1.heap.size = w.heap.size + 2 := by rw [← hW1]; simp
  have hg1 : Grows w W1 := by rw [← hW1]; exact ((Grows.refl w).alloc (Nat.le_refl _) _).alloc (by simp) _
  refine ⟨w.heap.size + 1, [{ target := .collected w.heap.size, args := #[] }], W1, { target := .fn (.func gf) lb, args := #[.func (.yield (w.heap.size + 1)) #[] #[]] }, W1, gf,
    #[.func (.yield (w.heap.size + 1)) #[] #[]] ++ lb, W1, ?_, ?_, ?_, ?_, fun h => by simp [Fence.wide] at h, ?_⟩
  · rw [← hW1, hrec]; exact run_enterLoop_outer _ _ _ _ _
  · simp only [resolve, hg]
    simp [go_sem]
  · intro f' hf'; trivial
  · simp [invoke, go_sem, eg]
  · have hitn : ∀ {m k : Nat}, Itn W1.heap.size m k → Itn w.heap.size m k := fun h => ⟨by have := h.1; omega, h.2⟩
    have hS := hseq (fun k => O k ∨ k = w.heap.size + 1) W1 hg1 (fun k hk h => h.elim (hO k hk) (fun e => by have := hInp k hk; omega)) (fun k h => h.elim (fun h => by have := hOl k h; omega) (fun h => by omega))
    refine (hS (w.heap.size + 1)
      (fun m pre W => w.heap.size + 2 ≤ m ∧ I m pre W ∧ W.heap[w.heap.size + 1]? = some (.loop (rec .ready none)) ∧ W.heap[w.heap.size]? = some (.deferred (some [])))
      (fun m pre W => ∃ c, Ix m c pre W ∧ W.heap[w.heap.size + 1]? = some (.loop (rec .done (some c))) ∧ W.heap[w.heap.size]? = some (.deferred (some [])))
      ?_ ?_ ?_ ?_).mono ?_
    · rintro m pre A' B' ⟨hm, hi, hl, hk⟩ ht
      have hsz := (Array.getElem?_eq_some_iff.1 hl).1
      exact ⟨hm, hI _ _ _ _ hi (ht.mono fun _ _ h => hitn h), (ht.block _ hsz (fun h => by have := h.1; omega)).trans hl, (ht.block _ (by omega) (fun h => by have := h.1; omega)).trans hk⟩
    · rintro m pre A' B' ⟨c, hi, hl, hk⟩ ht
      have hsz := (Array.getElem?_eq_some_iff.1 hl).1
      exact ⟨c, hIx _ _ _ _ _ hi (ht.mono fun _ _ h => hitn h), (ht.block _ hsz (fun h => by have := h.1; omega)).trans hl, (ht.block _ (by omega) (fun h => by have := h.1; omega)).trans hk⟩
    · -- one round
      rintro m pre x v W0 W hm1 hm20 ⟨hm, hi0, hl, hk⟩ hgW hpre hav
      have hsz0 := (Array.getElem?_eq_some_iff.1 hl).1
      replace hl := (hgW.block _ hsz0).trans hl
      replace hk := (hgW.block _ (by omega)).trans hk
      have hi := hI _ _ _ _ hi0 (Turns.of_grows hgW)
      have hm2 := Nat.le_trans hm20 hgW.size
      have hlt : w.heap.size + 1 < W.heap.size := (Array.getElem?_eq_some_iff.1 hl).1
      have hy := run_yield (P := P) (args := #[v]) hl (by rw [hrec]; exact hps.symm)
      rw [hrec] at hy
      refine ⟨fn, _, assign, body, hy, roundIn_of_wpIn hfn (hassign _ v W _ ⟨_, run_beginRound hl (by rw [hrec]), ?_⟩)⟩
      have hl2 : (W.putObj (w.heap.size + 1) (.loop { rec .ready none with state := .busy })).heap[w.heap.size + 1]? = some (.loop { rec .ready none with state := .busy }) := World.putObj_heap_same hlt
      have hk2 : (W.putObj (w.heap.size + 1) (.loop { rec .ready none with state := .busy })).heap[w.heap.size]? = some (.deferred (some [])) := (World.putObj_heap_other (by omega)).trans hk
      have ht2 : ∀ S : Nat → Prop, S (w.heap.size + 1) → Turns S W (W.putObj (w.heap.size + 1) (.loop { rec .ready none with state := .busy })) := fun S h => turns_putObj W _ _ h
      refine wpIn_mono (hbody _ m pre x v W0 _ hm hm20 hi0 (hI _ _ _ _ hi (ht2 _ ⟨by omega, by omega⟩)) ((Turns.of_grows hgW).trans (ht2 _ ⟨by omega, by omega⟩)) hpre (hA _ _ _ _ _ _ hm hm20 hav (ht2 _ ⟨by omega, by omega⟩))) ?_
      have fin : ∀ (jump : Option Code) (W3 : World), Turns (Rnd O m) (W.putObj (w.heap.size + 1) (.loop { rec .ready none with state := .busy })) W3 →
          (Instr.endRound (w.heap.size + 1) jump).run P W3 = .ok (.bool jump.isNone) (W3.putObj (w.heap.size + 1) (.loop (rec (if jump.isNone then .ready else .done) jump))) ∧
          (W3.putObj (w.heap.size + 1) (.loop (rec (if jump.isNone then .ready else .done) jump))).heap[w.heap.size + 1]? = some (.loop (rec (if jump.isNone then .ready else .done) jump)) ∧
          (W3.putObj (w.heap.size + 1) (.loop (rec (if jump.isNone then .ready else .done) jump))).heap[w.heap.size]? = some (.deferred (some [])) ∧
          Turns (Itn w.heap.size m) W3 (W3.putObj (w.heap.size + 1) (.loop (rec (if jump.isNone then .ready else .done) jump))) ∧
          Turns (Rnd (fun k => O k ∨ k = w.heap.size + 1) m) W (W3.putObj (w.heap.size + 1) (.loop (rec (if jump.isNone then .ready else .done) jump))) := fun jump W3 hk3 => by
        have hno : ∀ k, w.heap.size ≤ k → k < w.heap.size + 2 → ¬ Rnd O m k := fun k h1 h2 h => h.elim (fun h => by have := hOl _ h; omega) (fun h => by omega)
        have hl3 := (hk3.block _ (by simpa using hlt) (hno _ (by omega) (by omega))).trans hl2
        have hd3 := (hk3.block _ (by simp; omega) (hno _ (by omega) (by omega))).trans hk2
        have := run_endRound (P := P) jump hl3
        rw [hrec] at this hl3 ⊢
        refine ⟨this, World.putObj_heap_same (Array.getElem?_eq_some_iff.1 hl3).1, (World.putObj_heap_other (by omega)).trans hd3, turns_putObj W3 _ _ ⟨by omega, by omega⟩, ?_⟩
        rw [hrec] at hk3 ht2
        exact ((ht2 _ (.inl (.inr rfl))).trans (hk3.mono fun k _ h => h.imp .inl id)).trans (turns_putObj W3 _ _ (.inl (.inr rfl)))
      rintro e a3 W3 hp
      cases e with
      | normal =>
        obtain ⟨hk3, hi3⟩ := hp
        obtain ⟨hr, hl4, hk4, ht, ht4⟩ := fin none W3 hk3
        exact ⟨_, _, hr, .inl ⟨rfl, ⟨hm, hI _ _ _ _ hi3 ht, hl4, hk4⟩, ht4⟩⟩
      | ret =>
        obtain ⟨hk3, hi3⟩ := hp
        obtain ⟨hr, hl4, hk4, ht, ht4⟩ := fin (some .ret) W3 hk3
        exact ⟨_, _, hr, .inr ⟨rfl, ⟨.ret, hIx _ _ _ _ _ hi3 ht, hl4, hk4⟩, ht4⟩⟩
      | exit id =>
        obtain ⟨hk3, hi3⟩ := hp
        obtain ⟨hr, hl4, hk4, ht, ht4⟩ := fin (some (.exit id)) W3 hk3
        exact ⟨_, _, hr, .inr ⟨rfl, ⟨.exit id, hIx _ _ _ _ _ hi3 ht, hl4, hk4⟩, ht4⟩⟩
      | goto t =>
        obtain ⟨hk3, hi3⟩ := hp
        obtain ⟨hr, hl4, hk4, ht, ht4⟩ := fin (some (.goto t)) W3 hk3
        exact ⟨_, _, hr, .inr ⟨rfl, ⟨.goto t, hIx _ _ _ _ _ hi3 ht, hl4, hk4⟩, ht4⟩⟩
      | panic ch => exact hp.elim
      | outgrown => exact hp.elim
    · intro m W2 hm hm2 hg2
      exact ⟨by omega, h0 m W2 (by omega) hm2 (Grows.trans hg1 hg2), (hg2.block _ (Array.getElem?_eq_some_iff.1 hL1).1).trans hL1, (hg2.block _ (Array.getElem?_eq_some_iff.1 hK1).1).trans hK1⟩
    · -- behind the iterator
      rintro e W2 ⟨⟨v, rfl⟩, m, hm, hm2, (⟨hm', hi, hl, hk⟩ | ⟨pre, hpre, c, hi, hl, hk⟩)⟩
      · have ht := turns_putObj (S := Itn w.heap.size m) W2 (w.heap.size + 1) (.loop { rec .ready none with state := .done }) ⟨by omega, by omega⟩
        refine ⟨none, _, by have := run_endLoop (P := P) hl (by rw [hrec]; simp); rw [hrec] at this; exact this, hdone _ m _ (by omega) (by simpa using hm2) rfl (hI _ _ _ _ hi (turns_putObj W2 _ _ ⟨by omega, by omega⟩)) ((World.putObj_heap_other (by omega)).trans hk)⟩
      · exact ⟨some c, _, by have := run_endLoop (P := P) hl (by rw [hrec]; simp); rw [hrec] at this; exact this, hstop _ m c pre _ (by omega) (by simpa using hm2) rfl hpre (hIx _ _ _ _ _ hi (turns_putObj W2 _ _ ⟨by omega, by omega⟩)) ((World.putObj_heap_other (by omega)).trans hk)⟩
/-- A box that collects: behind the append, and behind the store. -/
theorem coll_app {W w4 : World} {m bx : Nat} {e : TypeId} {size k : Nat} {v0 : Value} {xs : List Value} {row : Option Nat} (hx : Has W bx [v0]) (hbm : bx < m) (hrow : W.ownsRow m e size v0 k xs) {W1 : World} (h1 : Grows W W1) (hg : W1.grownBy w4 v0.ownBlock) :
    Has w4 bx [v0] ∧ Turns (fun k => m ≤ k) W w4 := by
  have ht : Turns (fun k => m ≤ k) W1 w4 := Turns.of_by hg fun g e _ => own_ge hrow g e
  exact ⟨(hx.later h1).turned ht (by omega), (Turns.of_grows h1).trans ht⟩
theorem coll_set {W w4 : World} {m bx : Nat} {e : TypeId} {size k : Nat} {v0 v' : Value} {xs : List Value} (hx : Has w4 bx [v0]) (hbm : bx < m) (hown : w4.ownsRow m e size v' k xs) (ht : Turns (fun k => m ≤ k) W w4) :
    Has (w4.setCell ⟨bx, 0, none⟩ v') bx [v'] ∧ (w4.setCell ⟨bx, 0, none⟩ v').ownsRow m e size v' k xs ∧ Turns (Rnd (fun k => k = bx) m) W (w4.setCell ⟨bx, 0, none⟩ v') := by
  refine ⟨hx.set_ (k := 0) (by simp) v', own_turned hown (Turns.of_set (S := fun k => k = bx) w4 v' rfl) (fun g hg e => by have := own_ge hown g hg; omega), (ht.mono fun _ _ h => .inr h).trans (Turns.of_set w4 v' (.inl rfl))⟩
theorem turns_then_grows {w W W' : World} {S : Nat → Prop} (hg : Grows w W) (ht : Turns S W W') (hS : ∀ k, S k → w.heap.size ≤ k) : Grows w W' :=
  ((Turns.of_grows (S := fun k => w.heap.size ≤ k) hg).trans (ht.mono fun k _ h => hS k h)).grows fun k hk h => by omega
/-- A function that holds a loop over an iterator, entered. -/
theorem calls_marks {P : Program} {f : FuncId} {fn : Func} {c : Code} {args : Array Value} {w : World} {R : Ending → World → Prop} (hf : P.funcs[f]? = some fn) (hb : fn.body = some c)
    (h : c.wpIn Fence.wide 0 P (bodyPostM Fence.wide 0 P fn R) { tmps := args ++ Array.replicate (fn.ntmps - args.size) undef, defers := [] } w) : Calls P f args w R :=
  (callsIn_wide (n := 0)).1 (callsIn_of_wp_marks hf hb trivial h rfl)
/-- A return past one loop's mark. -/
theorem marks_ret {P : Program} {fn : Func} {R : Ending → World → Prop} {tmps : Array Value} {W : World} {D : Nat} {v : Value} (hK : W.heap[D]? = some (.deferred (some [])))
    (hr : ∀ w, (results fn tmps).run P w = .ok v w) (h : R (.returned v) (W.putObj D (.deferred none))) : bodyPostM Fence.wide 0 P fn R .ret { tmps := tmps, defers := [{ target := .collected D, args := #[] }] } W :=
  ⟨by simp, .inl ⟨_, _, rfl, run_takeDeferred hK, ⟨_, hr _, h⟩⟩⟩
theorem marks_end {P : Program} {fn : Func} {R : Ending → World → Prop} {tmps : Array Value} {W : World} {D : Nat} {v : Value} (hK : W.heap[D]? = some (.deferred (some [])))
    (hr : ∀ w, (results fn tmps).run P w = .ok v w) (h : R (.returned v) (W.putObj D (.deferred none))) : bodyPostM Fence.wide 0 P fn R .normal { tmps := tmps, defers := [{ target := .collected D, args := #[] }] } W :=
  ⟨by simp, .inl ⟨_, _, rfl, run_takeDeferred hK, ⟨_, hr _, h⟩⟩⟩
/-- A call in a walk inside the wide fence, and inside a round of it. -/
theorem call_wide {n : Nat} {P : Program} {f : FuncId} {args : Array Value} {w : World} {R R' : Ending → World → Prop} (h : Calls P f args w R) (hR : ∀ e w', R e w' → R' e w') :
    Fence.wide.fn f ∧ Fence.wide.depth = none ∧ CallsIn Fence.wide n P f args w R' := ⟨trivial, rfl, (callsIn_wide.2 h).mono hR⟩
theorem call_round {n l : Nat} {P : Program} {f : FuncId} {args : Array Value} {w : World} {R R' : Ending → World → Prop} (h : Calls P f args w R) (hR : ∀ e w', R e w' → R' e w') :
    (Fence.wide.inRound l).fn f ∧ (Fence.wide.inRound l).depth = none ∧ CallsIn (Fence.wide.inRound l) n P f args w R' := ⟨trivial, rfl, CallsIn.inRound l ((callsIn_wide.2 h).mono hR)⟩
end Go.Proofs.YtkgkkobdpgnicaaDoor
