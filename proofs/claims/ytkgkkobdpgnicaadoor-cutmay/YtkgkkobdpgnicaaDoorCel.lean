/-
  Words for variables of any cells (of no program): a block whose cells are known and may be written; parts of it loaded and stored whole; results that lie in memory.
-/
import Derived.Test.YtkgkkobdpgnicaaDoorArr
import Derived.Test.YtkgkkobdpgnicaaDoorOrd
namespace Go.Proofs.YtkgkkobdpgnicaaDoor
open Go.RowKit
set_option linter.unusedVariables false

/-- A word of 32 bits as a value. -/
abbrev uv (n : Nat) : Value := .int .u32 (n : Int)
theorem uv_one (l : List Nat) : ∀ u ∈ l.map uv, u.oneCell' = true := fun u hu => by
  obtain ⟨b, _, rfl⟩ := List.mem_map.1 hu
  rfl

/-- The variable in block b begins with the cells vs, and may be written. -/
structure Has (w : World) (b : Nat) (vs : List Value) : Prop where
  lt : b < w.heap.size
  cells : w.rangeAt b 0 vs
  free : ∀ j, w.frozen? ⟨b, j, none⟩ = false

section
variable {w w' : World} {b o : Nat} {vs cs : List Value}
theorem range_later (h : w.rangeAt b o cs) (hg : Grows w w') : w'.rangeAt b o cs := fun j v hv => hcell_later (h j v hv) hg
theorem range_below {B : Nat} (h : w.rangeAt b o cs) (hg : Below B w w') (hB : b < B) : w'.rangeAt b o cs := fun j v hv => (hg.cell (p := ⟨b, o + j, none⟩) hB).trans (h j v hv)
theorem range_cell (h : w.rangeAt b o cs) {k : Nat} {u : Value} (hu : cs[k]? = some u) : w.cell? ⟨b, o + k, none⟩ = some u := h k u hu
theorem Has.new (w : World) (t : TypeId) (vs : List Value) : Has (w.alloc (.cells vs.toArray t)) w.heap.size vs :=
  ⟨by simp, fun j u hu => by rw [cell_of_row _ _ _ _ t (0, 0) (heap_alloc_new w _)]; simpa using hu, fun j => frozen_of_row _ _ j _ t (heap_alloc_new w _)⟩
theorem Has.below {B : Nat} (h : Has w b vs) (hb : Below B w w') (hB : b < B) : Has w' b vs :=
  ⟨Nat.lt_of_lt_of_le h.lt hb.size, range_below h.cells hb hB, fun j => (hb.frozen (p := ⟨b, j, none⟩) hB).trans (h.free j)⟩
theorem Has.later (h : Has w b vs) (hb : Grows w w') : Has w' b vs := h.below hb h.lt
theorem Has.drew (h : Has w b vs) : Has w.drew b vs := ⟨h.lt, h.cells, h.free⟩
theorem Has.cell (h : Has w b vs) {k : Nat} {u : Value} (hu : vs[k]? = some u) : w.cell? ⟨b, k, none⟩ = some u := by have := h.cells k u hu; rwa [Nat.zero_add] at this
theorem Has.part (h : Has w b vs) (o : Nat) (hp : ∀ j u, cs[j]? = some u → vs[o + j]? = some u) : w.rangeAt b o cs := fun j u hu => h.cell (hp j u hu)
theorem there_of (h : w.rangeAt b o cs) (hf : ∀ j, w.frozen? ⟨b, j, none⟩ = false) : w.there b o cs.length := fun j hj => ⟨h.isSome j hj, hf _⟩
theorem Has.there (h : Has w b vs) : w.there b 0 vs.length := there_of h.cells h.free

theorem size_setCells (b : Nat) : ∀ (vs : List Value) (o : Nat) (w : World), (w.setCells b o vs).heap.size = w.heap.size
  | [], _, _ => rfl
  | v :: r, o, w => by rw [World.setCells, size_setCells b r]; simp [World.setCell]
theorem Has.lies (h : Has w b vs) : Lies w w.heap.size (some ⟨b, 0, none⟩) vs := fun j u hu => ⟨_, rfl, h.lt, by rw [add_plain, Nat.zero_add]; exact h.cell hu⟩
theorem range_lies (h : w.rangeAt b 0 vs) : Lies w w.heap.size (some ⟨b, 0, none⟩) vs := fun j u hu => ⟨_, rfl, World.block_lt_of_cell? w ⟨b, 0 + j, none⟩ (h j u hu), by rw [add_plain]; exact h j u hu⟩
/-- One cell is stored. -/
theorem Has.set_ (h : Has w b vs) {k : Nat} (hk : k < vs.length) (x : Value) : Has (w.setCell ⟨b, k, none⟩ x) b (vs.set k x) := by
  have hL : Lies w w.heap.size (some ⟨b, 0, none⟩) vs := fun j u hu => ⟨_, rfl, h.lt, by rw [add_plain, Nat.zero_add]; exact h.cell hu⟩
  have hs := hL.set_ (k := k) (u := x) hk
  refine ⟨by simpa [World.setCell] using h.lt, fun j u hu => ?_, fun j => by simpa using h.free j⟩
  obtain ⟨ad, e, _, hc⟩ := hs j u hu
  injection e with e
  subst e
  rwa [add_plain] at hc
/-- It is stored whole. -/
theorem Has.put_ (h : Has w b vs) {vs' : List Value} (hl : vs'.length = vs.length) : Has (w.setCells b 0 vs') b vs' :=
  ⟨by rw [size_setCells]; exact h.lt, World.rangeAt_setCells_same w b 0 vs' (by rw [hl]; exact h.there), fun j => by rw [World.frozen?_setCells]; exact h.free j⟩
theorem range_load {P : Program} {t : TypeId} {d : TypeDesc} (h : w.rangeAt b o cs) (ht : P.underlying t = some d) (hd : d.isRow = true) (hi : (P.info? t).map (·.size) = some cs.length) :
    (Instr.loadAt t (.pointer (some ⟨b, o, none⟩))).run P w = .ok (.agg cs.toArray) w := run_loadAt_mid w b o t cs d h ht hd hi
theorem Has.load {P : Program} {t : TypeId} {d : TypeDesc} (h : Has w b vs) (ht : P.underlying t = some d) (hd : d.isRow = true) (hi : (P.info? t).map (·.size) = some vs.length) :
    (Instr.loadAt t (.pointer (some ⟨b, 0, none⟩))).run P w = .ok (.agg vs.toArray) w := range_load h.cells ht hd hi

/-- A store of a whole row in place of another. -/
theorem wpList_storev {P : Program} {ops : Array Oper} {rest : List Oper} {op : Oper} {a : Act} {Q : Exit → Act → World → Prop} (hgd : op.guard = none) (ty : TypeId) (x y : Operand) (ho : op.op = .store ty x y)
    (b : Nat) (vs vs' : List Value) (n : Nat) (hx : a.eval x = .pointer (some ⟨b, 0, none⟩)) (hy : a.eval y = .agg vs'.toArray) (hb : Has w b vs) (hl : vs.length = n) (hl' : vs'.length = n) (hi : (P.info? ty).map (·.size) = some n)
    (h1 : ∀ v ∈ vs', v.oneCell' = true) (h : ∀ w', Has w' b vs' → (∀ B a0, B ≤ b → Below B a0 w → Below B a0 w') → wpList P ops Q rest (a.put op.dst undef) w') : wpList P ops Q (op :: rest) a w := by
  have hz : vs'.toArray.size = n := by simp [hl']
  refine wpList_store_mid hgd ty x y ho b 0 vs'.toArray hx hy (by rw [hz, ← hl]; exact hb.there) (by rw [hz]; exact hi) (all_oneCell_toArray h1) ?_
  exact h _ (hb.put_ (by rw [hl, hl'])) (fun B a0 hB hbl => below_cells b hB _ 0 w hbl)

theorem res_has {P : Program} {fn : Func} {p : Tmp} {t : TypeId} {d : TypeDesc} (h : fn.results = #[.cell p t]) (tmps : Array Value) (hp : tmps.getD p undef = .pointer (some ⟨b, 0, none⟩))
    (ht : P.underlying t = some d) (hd : d.isRow = true) (hi : (P.info? t).map (·.size) = some vs.length) (hb : Has w b vs) : (results fn tmps).run P w = .ok (.agg vs.toArray) w := by
  have hp' : tmps[p]?.getD undef = .pointer (some ⟨b, 0, none⟩) := by simpa using hp
  simp [results, h, hp', asAddr, run_loadVar_mid w b 0 t vs d hb.cells ht hd hi]

theorem own_later {base : Nat} {e : TypeId} {size : Nat} {v : Value} {n : Nat} {xs : List Value} (h : w.ownsRow base e size v n xs) (hg : Grows w w') : w'.ownsRow base e size v n xs := by
  refine ⟨h.1, h.2.imp id ?_⟩
  rintro ⟨g, cap, cur, hv, hb, hh, rest⟩
  refine ⟨g, cap, cur, hv, hb, ?_, rest⟩
  have hlt : g < w.heap.size := by
    rcases Nat.lt_or_ge g w.heap.size with hlt | hge
    · exact hlt
    · rw [Array.getElem?_eq_none hge] at hh; cases hh
  rw [hg.block g hlt]
  exact hh
theorem own_drawn {base : Nat} {e : TypeId} {size m : Nat} {v : Value} {n : Nat} {xs : List Value} (h : w.ownsRow base e size v n xs) : (w.drewN m).ownsRow base e size v n xs := h
theorem Has.drawn {m : Nat} (h : Has w b vs) : Has (w.drewN m) b vs := ⟨h.lt, h.cells, h.free⟩
theorem below_put {B : Nat} {a0 : World} (hB : B ≤ b) (h : Below B a0 w) (vs : List Value) (o : Nat) : Below B a0 (w.setCells b o vs) := below_cells b hB vs o w h
theorem grows_alloc (w : World) (ob : Obj) : Grows w (w.alloc ob) := (Grows.refl w).alloc (Nat.le_refl _) _
theorem mid_set {α : Type} (l z : List α) (k : Nat) (x : α) (hx : l[k]? = some x) (hz : k < z.length) : (l.take k ++ z.drop k).set k x = l.take (k + 1) ++ z.drop (k + 1) := by
  have hk : k < l.length := (List.getElem?_eq_some_iff.1 hx).1
  have e : x = l[k] := by rw [List.getElem?_eq_getElem hk] at hx; injection hx with hx; exact hx.symm
  rw [List.set_append_right _ _ (by simp; omega), List.length_take, Nat.min_eq_left (by omega), Nat.sub_self, List.drop_eq_getElem_cons hz, List.set_cons_zero,
    List.take_succ_eq_append_getElem hk, e, List.append_assoc]
  rfl
end
end Go.Proofs.YtkgkkobdpgnicaaDoor
