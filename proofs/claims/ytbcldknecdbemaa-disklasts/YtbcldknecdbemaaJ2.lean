/-
  Contracts, joined (Cel PaA Cut Rec Mak Tur Fil PaB StrA StrB DkA).
-/
import Derived.Test.YtbcldknecdbemaaJ1
import Derived.Test.YtbcldknecdbemaaRows
import Derived.Laws.RangeAny
import Derived.Lib.OthersKept
import Derived.WalkSmall
import Derived.WalkLawsBesides
import Derived.Outline
import Derived.Lib.Hide
import Derived.Laws.CopyOwn
import Derived.Deep.OwnRows
import Derived.MapKept
import Derived.Maps.RangeRun
import Derived.Lib.Bytealg
import Derived.Laws.Externs
import Derived.Shelf.Strconv.Clone
import Derived.Shelf.SlMaps.Clone
import Derived.Shelf.Sort.Plain
import Derived.Sort.OwnSorted

/-
  Words for variables of any cells (of no program): a block whose cells are known and may be written; parts of it loaded and stored whole; results that lie in memory.
-/
namespace Go.Proofs.Ytbcldknecdbemaa
open Go.RowKit
set_option linter.unusedVariables false
set_option maxRecDepth 20000

/-- A word of 32 bits as a value. -/
abbrev uv (n : Nat) : Value := .int .u32 (n : Int)
theorem uv_one (l : List Nat) : ∀ u ∈ l.map uv, u.oneCell' = true := fun u hu => by
  obtain ⟨b, _, rfl⟩ := List.mem_map.1 hu
  rfl

/-- The variable in block b begins with the cells vs, and may be written. -/
structure Has (w : World) (b : Nat) (vs : List Value) : Prop where
  lt : b < w.heap.size
  cells : w.rangeAt b 0 vs
  free : ∀ j, w.frozen? ⟨b, j, none⟩ = false

section
variable {w w' : World} {b o : Nat} {vs cs : List Value}
theorem range_later (h : w.rangeAt b o cs) (hg : Grows w w') : w'.rangeAt b o cs := fun j v hv => hcell_later (h j v hv) hg
theorem range_below {B : Nat} (h : w.rangeAt b o cs) (hg : Below B w w') (hB : b < B) : w'.rangeAt b o cs := fun j v hv => (hg.cell (p := ⟨b, o + j, none⟩) hB).trans (h j v hv)
theorem range_cell (h : w.rangeAt b o cs) {k : Nat} {u : Value} (hu : cs[k]? = some u) : w.cell? ⟨b, o + k, none⟩ = some u := h k u hu
theorem Has.new (w : World) (t : TypeId) (vs : List Value) : Has (w.alloc (.cells vs.toArray t)) w.heap.size vs :=
  ⟨by simp, fun j u hu => by rw [cell_of_row _ _ _ _ t (0, 0) (heap_alloc_new w _)]; simpa using hu, fun j => frozen_of_row _ _ j _ t (heap_alloc_new w _)⟩
theorem Has.below {B : Nat} (h : Has w b vs) (hb : Below B w w') (hB : b < B) : Has w' b vs :=
  ⟨Nat.lt_of_lt_of_le h.lt hb.size, range_below h.cells hb hB, fun j => (hb.frozen (p := ⟨b, j, none⟩) hB).trans (h.free j)⟩
theorem Has.later (h : Has w b vs) (hb : Grows w w') : Has w' b vs := h.below hb h.lt
theorem Has.drew (h : Has w b vs) : Has w.drew b vs := ⟨h.lt, h.cells, h.free⟩
theorem Has.cell (h : Has w b vs) {k : Nat} {u : Value} (hu : vs[k]? = some u) : w.cell? ⟨b, k, none⟩ = some u := by have := h.cells k u hu; rwa [Nat.zero_add] at this
theorem Has.part (h : Has w b vs) (o : Nat) (hp : ∀ j u, cs[j]? = some u → vs[o + j]? = some u) : w.rangeAt b o cs := fun j u hu => h.cell (hp j u hu)
theorem there_of (h : w.rangeAt b o cs) (hf : ∀ j, w.frozen? ⟨b, j, none⟩ = false) : w.there b o cs.length := fun j hj => ⟨h.isSome j hj, hf _⟩
theorem Has.there (h : Has w b vs) : w.there b 0 vs.length := there_of h.cells h.free

theorem size_setCells (b : Nat) : ∀ (vs : List Value) (o : Nat) (w : World), (w.setCells b o vs).heap.size = w.heap.size
  | [], _, _ => rfl
  | v :: r, o, w => by rw [World.setCells, size_setCells b r]; simp [World.setCell]
theorem Has.lies (h : Has w b vs) : Lies w w.heap.size (some ⟨b, 0, none⟩) vs := fun j u hu => ⟨_, rfl, h.lt, by rw [add_plain, Nat.zero_add]; exact h.cell hu⟩
theorem range_lies (h : w.rangeAt b 0 vs) : Lies w w.heap.size (some ⟨b, 0, none⟩) vs := fun j u hu => ⟨_, rfl, World.block_lt_of_cell? w ⟨b, 0 + j, none⟩ (h j u hu), by rw [add_plain]; exact h j u hu⟩
/-- One cell is stored. -/
theorem Has.set_ (h : Has w b vs) {k : Nat} (hk : k < vs.length) (x : Value) : Has (w.setCell ⟨b, k, none⟩ x) b (vs.set k x) := by
  have hL : Lies w w.heap.size (some ⟨b, 0, none⟩) vs := fun j u hu => ⟨_, rfl, h.lt, by rw [add_plain, Nat.zero_add]; exact h.cell hu⟩
  have hs := hL.set_ (k := k) (u := x) hk
  refine ⟨by simpa [World.setCell] using h.lt, fun j u hu => ?_, fun j => by simpa using h.free j⟩
  obtain ⟨ad, e, _, hc⟩ := hs j u hu
  injection e with e
  subst e
  rwa [add_plain] at hc
/-- It is stored whole. -/
theorem Has.put_ (h : Has w b vs) {vs' : List Value} (hl : vs'.length = vs.length) : Has (w.setCells b 0 vs') b vs' :=
  ⟨by rw [size_setCells]; exact h.lt, World.rangeAt_setCells_same w b 0 vs' (by rw [hl]; exact h.there), fun j => by rw [World.frozen?_setCells]; exact h.free j⟩
theorem range_load {P : Program} {t : TypeId} {d : TypeDesc} (h : w.rangeAt b o cs) (ht : P.underlying t = some d) (hd : d.isRow = true) (hi : (P.info? t).map (·.size) = some cs.length) :
    (Instr.loadAt t (.pointer (some ⟨b, o, none⟩))).run P w = .ok (.agg cs.toArray) w := run_loadAt_mid w b o t cs d h ht hd hi
theorem Has.load {P : Program} {t : TypeId} {d : TypeDesc} (h : Has w b vs) (ht : P.underlying t = some d) (hd : d.isRow = true) (hi : (P.info? t).map (·.size) = some vs.length) :
    (Instr.loadAt t (.pointer (some ⟨b, 0, none⟩))).run P w = .ok (.agg vs.toArray) w := range_load h.cells ht hd hi

/-- A store of a whole row in place of another. -/
theorem wpList_storev {P : Program} {ops : Array Oper} {rest : List Oper} {op : Oper} {a : Act} {Q : Exit → Act → World → Prop} (hgd : op.guard = none) (ty : TypeId) (x y : Operand) (ho : op.op = .store ty x y)
    (b : Nat) (vs vs' : List Value) (n : Nat) (hx : a.eval x = .pointer (some ⟨b, 0, none⟩)) (hy : a.eval y = .agg vs'.toArray) (hb : Has w b vs) (hl : vs.length = n) (hl' : vs'.length = n) (hi : (P.info? ty).map (·.size) = some n)
    (h1 : ∀ v ∈ vs', v.oneCell' = true) (h : ∀ w', Has w' b vs' → (∀ B a0, B ≤ b → Below B a0 w → Below B a0 w') → wpList P ops Q rest (a.put op.dst undef) w') : wpList P ops Q (op :: rest) a w := by
  have hz : vs'.toArray.size = n := by simp [hl']
  refine wpList_store_mid hgd ty x y ho b 0 vs'.toArray hx hy (by rw [hz, ← hl]; exact hb.there) (by rw [hz]; exact hi) (all_oneCell_toArray h1) ?_
  exact h _ (hb.put_ (by rw [hl, hl'])) (fun B a0 hB hbl => below_cells b hB _ 0 w hbl)

theorem res_has {P : Program} {fn : Func} {p : Tmp} {t : TypeId} {d : TypeDesc} (h : fn.results = #[.cell p t]) (tmps : Array Value) (hp : tmps.getD p undef = .pointer (some ⟨b, 0, none⟩))
    (ht : P.underlying t = some d) (hd : d.isRow = true) (hi : (P.info? t).map (·.size) = some vs.length) (hb : Has w b vs) : (results fn tmps).run P w = .ok (.agg vs.toArray) w := by
  have hp' : tmps[p]?.getD undef = .pointer (some ⟨b, 0, none⟩) := by simpa using hp
  simp [results, h, hp', asAddr, run_loadVar_mid w b 0 t vs d hb.cells ht hd hi]

theorem own_later {base : Nat} {e : TypeId} {size : Nat} {v : Value} {n : Nat} {xs : List Value} (h : w.ownsRow base e size v n xs) (hg : Grows w w') : w'.ownsRow base e size v n xs := by
  refine ⟨h.1, h.2.imp id ?_⟩
  rintro ⟨g, cap, cur, hv, hb, hh, rest⟩
  refine ⟨g, cap, cur, hv, hb, ?_, rest⟩
  have hlt : g < w.heap.size := by
    rcases Nat.lt_or_ge g w.heap.size with hlt | hge
    · exact hlt
    · rw [Array.getElem?_eq_none hge] at hh; cases hh
  rw [hg.block g hlt]
  exact hh
theorem own_drawn {base : Nat} {e : TypeId} {size m : Nat} {v : Value} {n : Nat} {xs : List Value} (h : w.ownsRow base e size v n xs) : (w.drewN m).ownsRow base e size v n xs := h
theorem Has.drawn {m : Nat} (h : Has w b vs) : Has (w.drewN m) b vs := ⟨h.lt, h.cells, h.free⟩
theorem below_put {B : Nat} {a0 : World} (hB : B ≤ b) (h : Below B a0 w) (vs : List Value) (o : Nat) : Below B a0 (w.setCells b o vs) := below_cells b hB vs o w h
theorem grows_alloc (w : World) (ob : Obj) : Grows w (w.alloc ob) := (Grows.refl w).alloc (Nat.le_refl _) _
theorem mid_set {α : Type} (l z : List α) (k : Nat) (x : α) (hx : l[k]? = some x) (hz : k < z.length) : (l.take k ++ z.drop k).set k x = l.take (k + 1) ++ z.drop (k + 1) := by
  have hk : k < l.length := (List.getElem?_eq_some_iff.1 hx).1
  have e : x = l[k] := by rw [List.getElem?_eq_getElem hk] at hx; injection hx with hx; exact hx.symm
  rw [List.set_append_right _ _ (by simp; omega), List.length_take, Nat.min_eq_left (by omega), Nat.sub_self, List.drop_eq_getElem_cons hz, List.set_cons_zero,
    List.take_succ_eq_append_getElem hk, e, List.append_assoc]
  rfl
end
end Go.Proofs.Ytbcldknecdbemaa

/-
  Texts as lists of bytes; how a range goes over any text; path.Name: which texts are names. No condition.
-/
namespace Go.Proofs.Ytbcldknecdbemaa
open Go.RowKit
set_option linter.unusedVariables false
set_option maxRecDepth 20000

/-- A text as a value. -/
abbrev tv (l : List UInt8) : Value := .string ⟨l.toArray⟩
theorem tv_one (l : List (List UInt8)) : ∀ u ∈ l.map tv, u.oneCell' = true := fun u hu => by
  obtain ⟨b, _, rfl⟩ := List.mem_map.1 hu
  rfl
theorem toList_mk (l : List UInt8) : (⟨l.toArray⟩ : ByteArray).toList = l := by rw [ByteArray.toList_eq]
theorem size_mk (l : List UInt8) : (⟨l.toArray⟩ : ByteArray).size = l.length := by show l.toArray.size = _; simp
theorem run_teq {P : Program} (t : TypeId) (l r : List UInt8) : binOp .eql t (tv l) (tv r) = (pure (.bool (l == r)) : Sem Value) := by rw [binOp_string_eql, toList_mk, toList_mk]
theorem run_tne {P : Program} (t : TypeId) (l r : List UInt8) : binOp .neq t (tv l) (tv r) = (pure (.bool !(l == r)) : Sem Value) := by rw [binOp_string_neq, toList_mk, toList_mk]

theorem get_mk (l : List UInt8) (p : Nat) (h : p < l.length) : (⟨l.toArray⟩ : ByteArray).get! p = l[p] := by
  simp [ByteArray.get!, h]
theorem dec_cont {l : List UInt8} {p k : Nat} (h : (decide (p + k < (⟨l.toArray⟩ : ByteArray).size) && (((⟨l.toArray⟩ : ByteArray).get! (p + k)).toNat / 64 == 2)) = true) : p + k < l.length ∧ ∃ b, l[p + k]? = some b ∧ 128 ≤ b.toNat := by
  rw [Bool.and_eq_true, decide_eq_true_eq, size_mk, beq_iff_eq] at h
  obtain ⟨h1, h2⟩ := h
  rw [get_mk l _ h1] at h2
  exact ⟨h1, _, List.getElem?_eq_getElem h1, by omega⟩
/-- What a range's step over a text at p is: one byte below 128, as it is; or a number from 128 on, of bytes each of which is from 128 on. -/
structure Step (l : List UInt8) (p : Nat) (r k : Nat) : Prop where
  pos : 1 ≤ k
  fits : p + k ≤ l.length
  byte : (k = 1 ∧ ∃ b, l[p]? = some b ∧ r = b.toNat) ∨ (128 ≤ r ∧ ∀ b ∈ (l.drop p).take k, 128 ≤ b.toNat)
theorem high_take {l : List UInt8} {p k : Nat} (h : ∀ j, j < k → ∃ b, l[p + j]? = some b ∧ 128 ≤ b.toNat) : ∀ b ∈ (l.drop p).take k, 128 ≤ b.toNat := fun b hb => by
  obtain ⟨j, hj⟩ := List.getElem?_of_mem hb
  rw [List.getElem?_take] at hj
  split at hj
  · rename_i hlt
    rw [List.getElem?_drop] at hj
    obtain ⟨c, hc, h1⟩ := h j hlt
    rw [hc] at hj
    injection hj with hj
    rw [← hj]; exact h1
  · cases hj
theorem step_at (l : List UInt8) (p : Nat) (h : p < l.length) : Step l p (Utf8.decode ⟨l.toArray⟩ p).1 (Utf8.decode ⟨l.toArray⟩ p).2 := by
  have hs : p < (⟨l.toArray⟩ : ByteArray).size := by rw [size_mk]; exact h
  by_cases ha : (l[p]).toNat < 128
  · have e : Utf8.decode ⟨l.toArray⟩ p = (l[p].toNat, 1) := by
      unfold Utf8.decode
      simp only [Nat.add_zero, get_mk l p h, ha, if_true]
    rw [e]
    exact ⟨Nat.le_refl _, by omega, .inl ⟨rfl, _, List.getElem?_eq_getElem h, rfl⟩⟩
  · have hr : 128 ≤ (Utf8.decode ⟨l.toArray⟩ p).1 ∧ 1 ≤ (Utf8.decode ⟨l.toArray⟩ p).2 := decode_high _ p hs (by
      have : ((⟨l.toArray⟩ : ByteArray)[p]'hs) = l[p] := by rfl
      rw [this]; omega)
    have h0 : ∃ b, l[p + 0]? = some b ∧ 128 ≤ b.toNat := ⟨_, List.getElem?_eq_getElem h, by omega⟩
    have hk : ∃ k, (Utf8.decode ⟨l.toArray⟩ p).2 = k ∧ p + k ≤ l.length ∧ ∀ j, j < k → ∃ b, l[p + j]? = some b ∧ 128 ≤ b.toNat := by
      have one : ∃ k, 1 = k ∧ p + k ≤ l.length ∧ ∀ j, j < k → ∃ b, l[p + j]? = some b ∧ 128 ≤ b.toNat := ⟨1, rfl, by omega, fun j hj => (show j = 0 by omega) ▸ h0⟩
      unfold Utf8.decode
      simp only [Nat.add_zero, get_mk l p h, ha, if_false]
      split
      · rename_i c1
        rw [Bool.and_eq_true] at c1
        have d1 := dec_cont c1.2
        split
        · refine ⟨2, rfl, by omega, fun j hj => ?_⟩
          match j, hj with
          | 0, _ => exact h0
          | 1, _ => exact d1.2
        · exact one
      · split
        · rename_i c1
          rw [Bool.and_eq_true, Bool.and_eq_true] at c1
          have d1 := dec_cont c1.1.2
          have d2 := dec_cont c1.2
          split
          · refine ⟨3, rfl, by omega, fun j hj => ?_⟩
            match j, hj with
            | 0, _ => exact h0
            | 1, _ => exact d1.2
            | 2, _ => exact d2.2
          · exact one
        · split
          · rename_i c1
            rw [Bool.and_eq_true, Bool.and_eq_true, Bool.and_eq_true] at c1
            have d1 := dec_cont c1.1.1.2
            have d2 := dec_cont c1.1.2
            have d3 := dec_cont c1.2
            split
            · refine ⟨4, rfl, by omega, fun j hj => ?_⟩
              match j, hj with
              | 0, _ => exact h0
              | 1, _ => exact d1.2
              | 2, _ => exact d2.2
              | 3, _ => exact d3.2
            · exact one
          · exact one
    obtain ⟨k, hk, hfit, hall⟩ := hk
    rw [hk] at hr ⊢
    exact ⟨hr.2, hfit, .inr ⟨hr.1, high_take hall⟩⟩
theorem Step.free {l : List UInt8} {p r k : Nat} (h : Step l p r k) {c : Nat} (hc : c < 128) (hr : r ≠ c) : ∀ b ∈ (l.drop p).take k, b.toNat ≠ c := fun b hb => by
  rcases h.byte with ⟨rfl, x, hx, e⟩ | ⟨_, h2⟩
  · obtain ⟨j, hj⟩ := List.getElem?_of_mem hb
    rw [List.getElem?_take] at hj
    split at hj
    · rename_i hlt
      obtain rfl : j = 0 := by omega
      rw [List.getElem?_drop, Nat.add_zero, hx] at hj
      injection hj with hj
      rw [← hj, ← e]; exact hr
    · cases hj
  · have := h2 b hb
    omega
theorem Step.here {l : List UInt8} {p r k : Nat} (h : Step l p r k) {c : Nat} (hc : c < 128) (hr : r = c) : k = 1 ∧ ∃ b, l[p]? = some b ∧ b.toNat = c := by
  rcases h.byte with ⟨rfl, x, hx, e⟩ | ⟨h1, _⟩
  · exact ⟨rfl, x, hx, by omega⟩
  · omega
theorem take_more (l : List UInt8) (p k : Nat) : l.take (p + k) = l.take p ++ (l.drop p).take k := by rw [List.take_add]

/-- No byte 0 or 47. -/
def freeB (s : List UInt8) : Bool := s.all (fun c => c != 0 && c != 47)
theorem free_more {l : List UInt8} {p r k : Nat} (h : Step l p r k) (h0 : r ≠ 0) (h1 : r ≠ 47) (hp : freeB (l.take p) = true) : freeB (l.take (p + k)) = true := by
  unfold freeB at hp ⊢
  rw [take_more, List.all_append, hp, Bool.true_and, List.all_eq_true]
  intro b hb
  have a0 := h.free (c := 0) (by omega) h0 b hb
  have a1 := h.free (c := 47) (by omega) h1 b hb
  rw [Bool.and_eq_true, bne_iff_ne, bne_iff_ne]
  exact ⟨fun e => a0 (by rw [e]; rfl), fun e => a1 (by rw [e]; rfl)⟩
theorem free_not {l : List UInt8} {p r k : Nat} (h : Step l p r k) (h0 : r = 0 ∨ r = 47) : freeB l = false := by
  obtain ⟨b, hb, hc⟩ : ∃ b, l[p]? = some b ∧ (b = 0 ∨ b = 47) := by
    rcases h0 with h0 | h0
    · obtain ⟨_, b, hb, hc⟩ := h.here (c := 0) (by omega) h0
      exact ⟨b, hb, .inl (UInt8.toNat_inj.1 hc)⟩
    · obtain ⟨_, b, hb, hc⟩ := h.here (c := 47) (by omega) h0
      exact ⟨b, hb, .inr (UInt8.toNat_inj.1 hc)⟩
  unfold freeB
  rw [List.all_eq_false]
  refine ⟨b, List.mem_of_getElem? hb, ?_⟩
  rcases hc with rfl | rfl <;> decide

theorem iterPos_of {w : World} {k : Nat} {s : ByteArray} {p : Nat} (h : w.heap[k]? = some (.stringIter s p)) : w.iterPos k = p := by simp [World.iterPos, h]

/-- Are the ends of a name as they should be? -/
def endsB (s : List UInt8) : Bool := decide (0 < s.length) && decide (s.length < 25) && s != [46] && s != [46, 46]
theorem name_parts (s : List UInt8) : nameB s = (freeB s && endsB s) := by
  unfold nameB freeB endsB
  simp only [Bool.and_assoc]
theorem rune_eq (r : Nat) (c : Nat) : ((r : Int) == (c : Int)) = decide (r = c) := by
  by_cases h : r = c
  · subst h; simp
  · simp [h]; omega

end Go.Proofs.Ytbcldknecdbemaa

/-
  Cuts of a slice whose elements have one cell (of no program): b[:m], b[m:], b[l:h], and what lies there.
-/
namespace Go.Proofs.Ytbcldknecdbemaa
open Go.RowKit
set_option linter.unusedVariables false
set_option maxRecDepth 20000
set_option linter.unusedSectionVars false

theorem add_zero_addr (a : Addr) : a.add 0 = a := by simp [Addr.add]
theorem add_add_addr (a : Addr) (i j : Nat) : (a.add i).add j = a.add (i + j) := by
  by_cases hi : i = 0 <;> by_cases hj : j = 0 <;> simp [Addr.add, hi, hj, Nat.add_assoc]
theorem map_add_zero (A : Option Addr) : A.map (·.add 0) = A := by cases A <;> simp [add_zero_addr]

theorem Lies.from_ {w : World} {B : Nat} {A : Option Addr} {vs : List Value} (h : Lies w B A vs) (m : Nat) : Lies w B (A.map (·.add m)) (vs.drop m) := fun j u hu => by
  rw [List.getElem?_drop] at hu
  obtain ⟨ad, rfl, hb, hc⟩ := h (m + j) u hu
  exact ⟨ad.add m, rfl, by rw [add_block]; exact hb, by rw [add_add_addr]; exact hc⟩

section
variable {P : Program} {t e : TypeId} (ht : P.underlying t = some (.slice e)) (hs : (P.info? e).map (·.size) = some 1) (A : Option Addr) (n c m : Nat) (k : IntKind)
include ht hs
theorem elem_of : P.elem t = e := by unfold Program.elem; simp [ht]
theorem size_of_elem (u : World) : (sizeOf (P.elem t)).run P u = .ok 1 u := by
  obtain ⟨i, hi, h1⟩ := Option.map_eq_some_iff.1 hs
  rw [elem_of ht hs]
  simp [sizeOf, typeInfo, hi, h1]
theorem run_cut_to (h : m ≤ c) (u : World) : (Instr.sliceAt t (.slice A n c) none (some (.int k (m : Int))) none).run P u = .ok (.slice A m c) u := by
  have ht' : P.underlying t = some (.slice (P.elem t)) := by rw [elem_of ht hs]; exact ht
  rw [run_sliceAt_slice u t _ _ _ _ ht', run_slice_h u t A n c ht' k m (by omega) (by omega), size_of_elem ht hs]
  simp [Result.andThen, sliced, map_add_zero]
theorem run_cut_from (h : m ≤ n) (hc : m < c) (u : World) : (Instr.sliceAt t (.slice A n c) (some (.int k (m : Int))) none none).run P u = .ok (.slice (A.map (·.add m)) (n - m) (c - m)) u := by
  have ht' : P.underlying t = some (.slice (P.elem t)) := by rw [elem_of ht hs]; exact ht
  rw [run_sliceAt_slice u t _ _ _ _ ht', run_slice_l u t A n c ht' k m (by omega) (by omega), size_of_elem ht hs]
  simp [Result.andThen, sliced, show ¬ c = m by omega]
end

/-- A cut, as one operation of a region that draws its order. -/
theorem exec_slice {P : Program} {o : Oper} {a : Act} {u : World} {t : TypeId} {x : Operand} {lo hi mx : Option Operand} {v : Value} (ho : o.op = .slice t x lo hi mx)
    (h : (Instr.sliceAt t (a.eval x) (lo.map a.eval) (hi.map a.eval) (mx.map a.eval)).run P u = .ok v u) : (execOp a.eval o).run P u = .ok (.value v) u := by
  unfold execOp
  simp only [ho, Sem.run_bind, h, Result.andThen_ok, Sem.run_pure]
theorem ord_cut {P : Program} {Q : Exit → Act → World → Prop} {l : List Oper} {E : Act → World → Prop} {w0 w : World} {i : Nat} {s : List (Nat × Bool)} {a : Act} (h0 : Grows w0 w) (o : Oper) (v : Value) (ho : l[i]? = some o)
    (hw : Region.wanted o (yielded l.toArray a.tmps) = true) (t : TypeId) (x : Operand) (lo hi mx : Option Operand) (hop : o.op = .slice t x lo hi mx)
    (hy : ∀ u, (Instr.sliceAt t (a.eval x) (lo.map a.eval) (hi.map a.eval) (mx.map a.eval)).run P u = .ok v u)
    (h : wpOrd P l.toArray Q E s (a.put o.dst v) w) : wpOrd P l.toArray Q E ((i, true) :: s) a w :=
  ord_take h0 o v ho hw (fun u hu _ => exec_slice hop (hy u)) h
theorem wpList_cut {P : Program} {w : World} {ops : Array Oper} {rest : List Oper} {o : Oper} {a : Act} {Q : Exit → Act → World → Prop} (hgd : o.guard = none) (t : TypeId) (x : Operand) (lo hi mx : Option Operand) (hop : o.op = .slice t x lo hi mx)
    (v : Value) (hy : (Instr.sliceAt t (a.eval x) (lo.map a.eval) (hi.map a.eval) (mx.map a.eval)).run P w = .ok v w) (h : wpList P ops Q rest (a.put o.dst v) w) : wpList P ops Q (o :: rest) a w := by
  refine wpList_plain hgd fun K hK => ?_
  unfold Oper.wp
  rw [exec_slice hop hy]
  exact hK _ _ h
end Go.Proofs.Ytbcldknecdbemaa

/-
  Rows of records (elements of several cells), of no program: where each one lies, its load, append to an owned one.
-/
namespace Go.Proofs.Ytbcldknecdbemaa
open Go.RowKit
set_option linter.unusedVariables false
set_option maxRecDepth 20000

theorem flat_len {k : Nat} : ∀ {rs : List (List Value)}, (∀ r ∈ rs, r.length = k) → rs.flatten.length = rs.length * k
  | [], _ => by simp
  | r :: rs, h => by
    have h1 := h r (by simp)
    have ih := flat_len (rs := rs) fun x hx => h x (by simp [hx])
    simp [ih, h1, Nat.add_mul]; omega
theorem flat_at {k : Nat} : ∀ {rs : List (List Value)} {i j : Nat} {r : List Value} {u : Value}, (∀ r ∈ rs, r.length = k) → rs[i]? = some r → r[j]? = some u → rs.flatten[i * k + j]? = some u
  | [], i, j, r, u, _, hi, _ => by simp at hi
  | x :: rs, 0, j, r, u, h, hi, hj => by
    simp at hi
    subst hi
    have h1 := h x (by simp)
    have : j < x.length := (List.getElem?_eq_some_iff.1 hj).1
    rw [List.flatten_cons, Nat.zero_mul, Nat.zero_add, List.getElem?_append_left this]; exact hj
  | x :: rs, i + 1, j, r, u, h, hi, hj => by
    have h1 := h x (by simp)
    have ih := flat_at (rs := rs) (i := i) (j := j) (fun y hy => h y (by simp [hy])) (by simpa using hi) hj
    rw [List.flatten_cons, List.getElem?_append_right (by rw [h1, Nat.add_mul]; omega)]
    rw [show (i + 1) * k + j - x.length = i * k + j by rw [h1, Nat.add_mul]; omega]
    exact ih

/-- Records of k cells lie one behind the other. -/
structure Recs (w : World) (A : Option Addr) (k : Nat) (rs : List (List Value)) : Prop where
  each : ∀ r ∈ rs, r.length = k
  lies : Lies w w.heap.size A rs.flatten
section
variable {w w' : World} {A : Option Addr} {k : Nat} {rs : List (List Value)}
theorem Recs.later (h : Recs w A k rs) (hg : Grows w w') : Recs w' A k rs := ⟨h.each, h.lies.later hg⟩
theorem Recs.nil : Recs w A k [] := ⟨by simp, Lies.empty⟩
/-- The cells of one of them. -/
theorem Recs.at_ (h : Recs w A k rs) (hk : 0 < k) {i : Nat} {r : List Value} (hi : rs[i]? = some r) : ∃ ad, A = some ad ∧ ad.block < w.heap.size ∧ ∀ j u, r[j]? = some u → w.cell? (ad.add (i * k + j)) = some u := by
  have hl := h.each r (List.mem_of_getElem? hi)
  obtain ⟨u0, hu0⟩ : ∃ u, r[0]? = some u := ⟨_, List.getElem?_eq_getElem (by omega)⟩
  obtain ⟨ad, rfl, hb, _⟩ := h.lies _ _ (flat_at h.each hi hu0)
  exact ⟨ad, rfl, hb, fun j u hu => by obtain ⟨ad', e, _, hc⟩ := h.lies _ _ (flat_at h.each hi hu); injection e with e; rw [e]; exact hc⟩
theorem Recs.of_own {base : Nat} {e : TypeId} {n c : Nat} (hr : ∀ r ∈ rs, r.length = k) (hk : 0 < k) (h : w.ownsRow base e k (.slice A n c) n rs.flatten) : Recs w A k rs ∧ rs.length = n := by
  have hn : rs.length = n := by
    have := h.1
    rw [flat_len hr] at this
    exact Nat.eq_of_mul_eq_mul_right hk this
  refine ⟨⟨hr, fun j u hu => ?_⟩, hn⟩
  obtain ⟨h1, h2⟩ := h
  rcases h2 with ⟨_, h0⟩ | ⟨g, cap, cur, hv, _, hh, hnc, _, hsz, htk⟩
  · subst h0
    rw [List.length_eq_zero_iff] at hn
    subst hn
    simp at hu
  · injection hv with hA
    subst hA
    have hg : g < w.heap.size := (Array.getElem?_eq_some_iff.1 hh).1
    refine ⟨⟨g, 0, none⟩, rfl, hg, ?_⟩
    rw [add_plain, cell_of_row w g _ cur e (0, 0) hh]
    have : (cur.toList.take (n * k))[j]? = some u := by rw [htk]; exact hu
    rw [List.getElem?_take] at this
    split at this
    · simpa using this
    · cases this
end

section
variable {P : Program}
/-- A record is loaded, wherever it lies. -/
theorem load_any (w : World) (a : Addr) (ty : TypeId) (cs : List Value) (d : TypeDesc) (hc : ∀ j v, cs[j]? = some v → w.cell? (a.add j) = some v) (hu : P.underlying ty = some d) (hd : d.isRow = true) (hi : (P.info? ty).map (·.size) = some cs.length) :
    (Instr.loadAt ty (.pointer (some a))).run P w = .ok (.agg cs.toArray) w := by
  have hl : (loadCells a cs.length).run P w = .ok cs.toArray w := run_loadCells_list (P := P) w a cs hc
  cases hq : P.info? ty with
  | none => simp [hq] at hi
  | some i =>
    have hs : i.size = cs.length := by simpa [hq] using hi
    have hagg : (isAgg ty).run P w = .ok true w := by
      unfold isAgg
      rw [Sem.run_bind, run_underlying hu w]
      cases d <;> simp_all
    simp [Instr.loadAt, Instr.sureAddr, loadVar, Sem.run_bind, hagg, sizeOf, typeInfo, hq, hs, hl]
/-- append(owned records, source...): the source may be nil, empty, or lie anywhere. -/
theorem run_append_recs (w : World) (base : Nat) (t ty e : TypeId) (i : TypeInfo) (z : Value) (k bytes : Nat) (hk : 0 < k) (ht : P.underlying t = some (.slice e)) (hi : P.info? e = some i) (hz : i.zero = some z)
    (hsize : i.size = k) (hby : i.bytes = bytes) (hzs : z.cells.size = k)
    (v : Value) (n : Nat) (xs : List Value) (hown : w.ownsRow base e k v n xs)
    (B : Nat) (A : Option Addr) (m c : Nat) (news : List Value) (hl : news.length = m * k) (hr : Lies w B A news) (h1 : ∀ u ∈ news, u.oneCell' = true)
    (h63 : n + m ≤ maxLen) (hbytes : (n + m) * bytes ≤ 140737488355328) (hbase : base ≤ w.heap.size) :
    ∃ v' w', (Builtin.append_ #[t, t] ty #[v, .slice A m c]).run P w = .ok v' w' ∧ w'.ownsRow base e k v' (n + m) (xs ++ news) ∧ w.grownBy w' v.ownBlock ∧
      (v'.ownBlock = v.ownBlock ∨ v'.ownBlock = some w.heap.size) := by
  cases A with
  | none =>
    have hn := hr.none_empty
    subst hn
    have hm : m = 0 := by
      rcases Nat.eq_zero_or_pos m with h | h
      · exact h
      · have := Nat.mul_pos h hk; simp at hl; omega
    subst hm
    refine ⟨v, w, ?_, by simpa using hown, World.grownBy.refl w _, .inl rfl⟩
    rcases hown.2 with ⟨rfl, rfl⟩ | ⟨g, cap, cur, rfl, _, _, hnc, _⟩
    · simp [Builtin.append_, run_underlying ht, sizeOf, typeInfo, hi, Builtin.lenOf, Builtin.firstCells]
    · simp [Builtin.append_, run_underlying ht, sizeOf, typeInfo, hi, Builtin.lenOf, Builtin.firstCells, hnc, storeCells]
  | some ad =>
    obtain ⟨v', w', hrun, h2, h3, _, h5⟩ := run_append_own_at (P := P) w base t ty e i z k bytes ht hi hz hsize hby hzs hk v n xs hown ad m c news hl hr.cells h1 h63 hbytes hbase
    exact ⟨v', w', hrun, h2, h3, h5⟩
theorem wpList_append_recs {w : World} {ops : Array Oper} {rest : List Oper} {o : Oper} {a : Act} {Q : Exit → Act → World → Prop} (hgd : o.guard = none) (s x : Operand) (t : TypeId)
    (ho : o.op = .call { callee := .builtin .append, args := #[s, x], argTypes := #[t, t] })
    (base : Nat) (e : TypeId) (i : TypeInfo) (z : Value) (k bytes : Nat) (hk : 0 < k) (ht : P.underlying t = some (.slice e)) (hi : P.info? e = some i) (hz : i.zero = some z)
    (hsize : i.size = k) (hby : i.bytes = bytes) (hzs : z.cells.size = k)
    (v : Value) (n : Nat) (xs : List Value) (hs : a.eval s = v) (hown : w.ownsRow base e k v n xs)
    (B : Nat) (A : Option Addr) (m c : Nat) (news : List Value) (hx : a.eval x = .slice A m c) (hl : news.length = m * k) (hr : Lies w B A news) (h1 : ∀ u ∈ news, u.oneCell' = true)
    (h63 : n + m ≤ maxLen) (hbytes : (n + m) * bytes ≤ 140737488355328) (hbase : base ≤ w.heap.size)
    (h : ∀ v' w', w'.ownsRow base e k v' (n + m) (xs ++ news) → w.grownBy w' v.ownBlock → (v'.ownBlock = v.ownBlock ∨ v'.ownBlock = some w.heap.size) → wpList P ops Q rest (a.put o.dst v') w') : wpList P ops Q (o :: rest) a w := by
  refine wpList_plain hgd fun K hK => ?_
  obtain ⟨v', w', hrun, h2, h3, h4⟩ := run_append_recs (P := P) w base t o.type e i z k bytes hk ht hi hz hsize hby hzs v n xs hown B A m c news hl hr h1 h63 hbytes hbase
  unfold Oper.wp execOp
  simp only [ho, resolve, invoke, builtin, Sem.run_bind, Sem.run_pure, Result.andThen_ok, List.map_toArray, List.map_cons, List.map_nil, hs, hx, hrun]
  exact hK _ _ (h v' w' h2 h3 h4)
end
end Go.Proofs.Ytbcldknecdbemaa

/-
  Laws for a walk (of no program): make with room, and copy into a row of the call's own, both in the words of an owned row.
-/
namespace Go.Proofs.Ytbcldknecdbemaa
open Go.RowKit
set_option linter.unusedVariables false
set_option maxRecDepth 20000

theorem made_one (z : Value) (n : Nat) : madeCells #[z] n = (List.replicate n z).toArray := by
  apply Array.ext
  · simp [madeCells]
  · intro i h1 h2
    simp [madeCells, Nat.mod_one]

section
variable {P : Program}
theorem run_make_room (base : Nat) (t e : TypeId) (i : TypeInfo) (z : Value) (ht : P.underlying t = some (.slice e)) (hi : P.info? e = some i) (hz : i.zero = some z) (hsize : i.size = 1) (hz1 : z.cells = #[z])
    (kl kc : IntKind) (n c : Nat) (hnc : n ≤ c) (hbytes : i.bytes * c ≤ 281474976710656) (h63 : c ≤ maxLen) (w : World) (hbase : base ≤ w.heap.size) :
    ∃ w', (Instr.makeSlice t (.int kl (n : Int)) (.int kc (c : Int))).run P w = .ok (.slice (some ⟨w.heap.size, 0, none⟩) n c) w' ∧
      w'.ownsRow base e 1 (.slice (some ⟨w.heap.size, 0, none⟩) n c) n (List.replicate n z) ∧ Grows w w' ∧ w'.heap.size = w.heap.size + 1 := by
  have h63' : (c : Int) ≤ 9223372036854775807 := by
    have h := h63
    simp [maxLen] at h
    omega
  have hb' : (i.bytes : Int) * (c : Int) ≤ 281474976710656 := by
    have h : ((i.bytes * c : Nat) : Int) ≤ 281474976710656 := by omega
    rwa [Int.natCast_mul] at h
  have hr := run_make (P := P) w t e i z ht hi hz kl kc n c (by omega) (by omega) hb' h63'
  rw [hsize, hz1, Int.toNat_natCast, Int.toNat_natCast, Nat.mul_one, made_one] at hr
  refine ⟨_, hr, ⟨by simp, .inr ⟨w.heap.size, c, (List.replicate c z).toArray, rfl, hbase, heap_alloc_new w _, hnc, h63, by simp, ?_⟩⟩, grows_alloc _ _, by simp⟩
  simp [List.take_replicate, Nat.min_eq_left hnc]

theorem wpList_make_room (w : World) {ops : Array Oper} {rest : List Oper} {o : Oper} {a : Act} {Q : Exit → Act → World → Prop} (hg : o.guard = none) (l c : Operand) (t : TypeId) (hop : o.op = Op.makeSlice t l c)
    (base : Nat) (e : TypeId) (i : TypeInfo) (z : Value) (ht : P.underlying t = some (.slice e)) (hi : P.info? e = some i) (hz : i.zero = some z) (hsize : i.size = 1) (hz1 : z.cells = #[z])
    (kl kc : IntKind) (x y : Int) (n m : Nat) (hl : a.eval l = .int kl x) (hc : a.eval c = .int kc y) (hx : x = (n : Int)) (hy : y = (m : Int)) (hnm : n ≤ m) (hbytes : i.bytes * m ≤ 281474976710656) (h63 : m ≤ maxLen) (hbase : base ≤ w.heap.size)
    (hK : ∀ w', w'.ownsRow base e 1 (.slice (some ⟨w.heap.size, 0, none⟩) n m) n (List.replicate n z) → Grows w w' → w'.heap.size = w.heap.size + 1 → wpList P ops Q rest (a.put o.dst (.slice (some ⟨w.heap.size, 0, none⟩) n m)) w') :
    wpList P ops Q (o :: rest) a w := by
  subst hx hy
  refine wpList_plain hg fun K hK' => ?_
  obtain ⟨w', hrun, h1, h2, h3⟩ := run_make_room (P := P) base t e i z ht hi hz hsize hz1 kl kc n m hnm hbytes h63 w hbase
  unfold Oper.wp
  simp [execOp, hop, hl, hc, hrun, Result.andThen]
  exact hK' _ _ (hK w' h1 h2 h3)

/-- copy(owned, source): what goes over. -/
theorem wpList_copy_row {w : World} {ops : Array Oper} {rest : List Oper} {o : Oper} {a : Act} {Q : Exit → Act → World → Prop} (hgd : o.guard = none) (d s : Operand) (dT sT : TypeId)
    (ho : o.op = .call { callee := .builtin .copy, args := #[d, s], argTypes := #[dT, sT] }) (e : TypeId) (hu : P.underlying dT = some (.slice e)) (hsz : (P.info? e).map (·.size) = some 1)
    (base : Nat) (v : Value) (n : Nat) (xs : List Value) (hd : a.eval d = v) (hown : w.ownsRow base e 1 v n xs)
    (B : Nat) (A : Option Addr) (m c : Nat) (news : List Value) (hs : a.eval s = .slice A m c) (hl : news.length = m) (hr : Lies w B A news) (h1 : ∀ u ∈ news, u.oneCell' = true) (w0 : World) (hb : Below base w0 w)
    (h : ∀ w', w'.ownsRow base e 1 v n (news.take n ++ xs.drop m) → Below base w0 w' → w'.heap.size = w.heap.size → wpList P ops Q rest (a.put o.dst (goInt ((min m n : Nat) : Int))) w') :
    wpList P ops Q (o :: rest) a w := by
  have hxl : xs.length = n := by have := hown.1; omega
  by_cases h0 : min m n = 0
  · obtain ⟨A', c', rfl, _⟩ := own_form hown
    refine wpList_copy_nothing hgd d s dT sT ho e hu hsz A' A n c' m c hd hs h0 ?_
    rw [h0] at h
    refine h w ?_ hb rfl
    have he : news.take n ++ xs.drop m = xs := by
      rcases Nat.min_eq_zero_iff.1 h0 with rfl | rfl
      · rw [List.eq_nil_of_length_eq_zero hl]; simp
      · rw [List.eq_nil_of_length_eq_zero hxl]; simp
    rw [he]
    exact hown
  · rcases hown.2 with ⟨_, rfl⟩ | ⟨g, cap, cur, rfl, hbg, hh, hnc, hm, hcs, htk⟩
    · simp at h0
    · obtain ⟨ad, rfl, _, _⟩ := hr 0 (news[0]'(by omega)) (List.getElem?_eq_getElem _)
      have hlen : (news.take n).length = min m n := by rw [List.length_take, hl, Nat.min_comm]
      have hfit : (news.take n).length ≤ cur.size := by rw [hlen]; omega
      refine wpList_copy_own hgd d s dT sT ho e hu hsz g 0 n cap ad m c hd hs cur e hh (news.take n) hlen (hr.take n).cells (by omega) (fun u hu => h1 u (List.mem_of_mem_take hu)) ?_
      rw [hlen]
      refine h _ ⟨by simp [hl, hxl]; omega, .inr ⟨g, cap, _, rfl, hbg, setRow_heap w g _ _ e _ hh, hnc, hm, ?_, ?_⟩⟩ (below_setRow hb hbg _) (by simp [World.setRow])
      · simp [hl]; omega
      · rw [Nat.mul_one] at htk ⊢
        simp only [List.take_zero, List.nil_append, Nat.zero_add]
        rw [List.take_append, List.take_of_length_le (by rw [hlen]; omega), hlen, ← htk, List.drop_take]
        congr 1
        by_cases hmn : m ≤ n
        · rw [Nat.min_eq_left hmn]
        · rw [Nat.min_eq_right (by omega), Nat.sub_self, show n - m = 0 by omega, List.take_zero, List.take_zero]
end

/-- A row of the call's own that is not empty: where it lies, and that it may be written. -/
theorem own_has {w : World} {base : Nat} {e : TypeId} {v : Value} {n : Nat} {vs : List Value} (h : w.ownsRow base e 1 v n vs) (hn : 0 < n) : ∃ g c, v = .slice (some ⟨g, 0, none⟩) n c ∧ n ≤ c ∧ c ≤ maxLen ∧ base ≤ g ∧ Has w g vs := by
  have h0 := h
  rcases h.2 with ⟨_, h'⟩ | ⟨g, cap, cur, rfl, hb, hg, hnc, hm, _⟩
  · omega
  · refine ⟨g, cap, rfl, hnc, hm, hb, ?_, fun j u hu => ?_, fun j => frozen_of_row w g j cur e hg⟩
    · rcases Nat.lt_or_ge g w.heap.size with hlt | hge
      · exact hlt
      · rw [Array.getElem?_eq_none hge] at hg; cases hg
    · obtain ⟨ad, e, _, hc⟩ := Lies.of_own h0 j u hu
      injection e with e
      subst e
      rwa [add_plain] at hc
end Go.Proofs.Ytbcldknecdbemaa

/-
  Worlds of which some blocks may have turned (of no program): what stays; owned rows cut and stored into; slices of records cut.
-/
namespace Go.Proofs.Ytbcldknecdbemaa
open Go.RowKit
set_option linter.unusedVariables false
set_option maxRecDepth 20000
set_option linter.unusedSectionVars false

/-- Nothing but the blocks of S has turned. -/
structure Turns (S : Nat → Prop) (w w' : World) : Prop where
  os : w'.os = w.os
  tape : w'.tape = w.tape
  output : w'.output = w.output
  size : w.heap.size ≤ w'.heap.size
  block : ∀ k, k < w.heap.size → ¬ S k → w'.heap[k]? = w.heap[k]?
section
variable {S S' : Nat → Prop} {w w' w'' : World}
theorem Turns.refl (S : Nat → Prop) (w : World) : Turns S w w := ⟨rfl, rfl, rfl, Nat.le_refl _, fun _ _ _ => rfl⟩
theorem Turns.of_grows (h : Grows w w') : Turns S w w' := ⟨h.os, h.tape, h.output, h.size, fun k hk _ => h.block k hk⟩
theorem Turns.of_by {row : Option Nat} (h : w.grownBy w' row) (hS : ∀ g, row = some g → g < w.heap.size → S g) : Turns S w w' := ⟨h.os, h.tape, h.output, h.size, fun k hk hn => h.block k hk fun e => hn (hS k e.symm hk)⟩
theorem Turns.of_set {b o : Nat} (w : World) (u : Value) (hb : S b) : Turns S w (w.setCell ⟨b, o, none⟩ u) := ⟨rfl, rfl, rfl, by simp [World.setCell], fun k hk hn => Below.heap_setCell w _ u k fun e => hn (by rw [e]; exact hb)⟩
theorem Turns.trans (h : Turns S w w') (k : Turns S w' w'') : Turns S w w'' :=
  ⟨k.os.trans h.os, k.tape.trans h.tape, k.output.trans h.output, Nat.le_trans h.size k.size, fun i hi hn => (k.block i (Nat.lt_of_lt_of_le hi h.size) hn).trans (h.block i hi hn)⟩
theorem Turns.mono (h : Turns S w w') (hS : ∀ k, k < w.heap.size → S k → S' k) : Turns S' w w' := ⟨h.os, h.tape, h.output, h.size, fun k hk hn => h.block k hk fun e => hn (hS k hk e)⟩
/-- Behind it, what is new in between may turn, too. -/
theorem Turns.then_ (h : Turns S w w') (k : Turns S' w' w'') (hS : ∀ i, i < w.heap.size → S' i → S i) : Turns S w w'' :=
  ⟨k.os.trans h.os, k.tape.trans h.tape, k.output.trans h.output, Nat.le_trans h.size k.size, fun i hi hn => (k.block i (Nat.lt_of_lt_of_le hi h.size) (fun e => hn (hS i hi e))).trans (h.block i hi hn)⟩
theorem Turns.grows (h : Turns S w w') (hS : ∀ k, k < w.heap.size → ¬ S k) : Grows w w' := ⟨h.os, h.tape, h.output, h.size, fun k hk => h.block k hk (hS k hk)⟩
theorem Turns.cell (h : Turns S w w') {a : Addr} {v : Value} (hc : w.cell? a = some v) (hn : ¬ S a.block) : w'.cell? a = some v :=
  (World.cell?_of_block (h.block a.block (World.block_lt_of_cell? w a hc) hn)).trans hc
theorem Has.turned {b : Nat} {vs : List Value} (h : Has w b vs) (ht : Turns S w w') (hn : ¬ S b) : Has w' b vs :=
  ⟨Nat.lt_of_lt_of_le h.lt ht.size, fun j u hu => ht.cell (h.cells j u hu) hn, fun j => (World.frozen?_of_block (ht.block b h.lt hn)).trans (h.free j)⟩
theorem own_turned {base : Nat} {e : TypeId} {size : Nat} {v : Value} {n : Nat} {xs : List Value} (h : w.ownsRow base e size v n xs) (ht : Turns S w w') (hn : ∀ g, v.ownBlock = some g → ¬ S g) : w'.ownsRow base e size v n xs := by
  refine ⟨h.1, h.2.imp id ?_⟩
  rintro ⟨g, cap, cur, hv, hb, hh, rest⟩
  refine ⟨g, cap, cur, hv, hb, ?_, rest⟩
  rw [ht.block g (Array.getElem?_eq_some_iff.1 hh).1 (hn g (by rw [hv]; rfl))]
  exact hh
end
theorem turns_cells (b : Nat) : ∀ (vs : List Value) (o : Nat) (w : World), Turns (fun k => k = b) w (w.setCells b o vs)
  | [], _, w => Turns.refl _ w
  | v :: r, o, w => by
    rw [World.setCells]
    exact (Turns.of_set (S := fun k => k = b) w v rfl).trans (turns_cells b r (o + 1) _)
/-- A store of a whole row in place of another: no other block has turned. -/
theorem wpList_storeT {P : Program} {w : World} {ops : Array Oper} {rest : List Oper} {op : Oper} {a : Act} {Q : Exit → Act → World → Prop} (hgd : op.guard = none) (ty : TypeId) (x y : Operand) (ho : op.op = .store ty x y)
    (b : Nat) (vs vs' : List Value) (n : Nat) (hx : a.eval x = .pointer (some ⟨b, 0, none⟩)) (hy : a.eval y = .agg vs'.toArray) (hb : Has w b vs) (hl : vs.length = n) (hl' : vs'.length = n) (hi : (P.info? ty).map (·.size) = some n)
    (h1 : ∀ v ∈ vs', v.oneCell' = true) (h : ∀ w', Has w' b vs' → Turns (fun k => k = b) w w' → wpList P ops Q rest (a.put op.dst undef) w') : wpList P ops Q (op :: rest) a w := by
  have hz : vs'.toArray.size = n := by simp [hl']
  refine wpList_store_mid hgd ty x y ho b 0 vs'.toArray hx hy (by rw [hz, ← hl]; exact hb.there) (by rw [hz]; exact hi) (all_oneCell_toArray h1) ?_
  exact h _ (hb.put_ (by rw [hl, hl'])) (turns_cells b _ 0 w)
theorem turns_grow {w w' w'' : World} {b : Nat} (hg : Grows w w') (ht : Turns (fun k => k = b) w' w'') (hb : w.heap.size ≤ b) : Grows w w'' :=
  ⟨ht.os.trans hg.os, ht.tape.trans hg.tape, ht.output.trans hg.output, Nat.le_trans hg.size ht.size, fun k hk => (ht.block k (Nat.lt_of_lt_of_le hk hg.size) (by omega)).trans (hg.block k hk)⟩
theorem own_take {w : World} {base : Nat} {e : TypeId} {size : Nat} {g n c : Nat} {xs : List Value} (h : w.ownsRow base e size (.slice (some ⟨g, 0, none⟩) n c) n xs) {k : Nat} (hk : k ≤ n) : w.ownsRow base e size (.slice (some ⟨g, 0, none⟩) k c) k (xs.take (k * size)) := by
  obtain ⟨h1, h2⟩ := h
  have hle := Nat.mul_le_mul_right size hk
  refine ⟨by rw [List.length_take, h1]; omega, ?_⟩
  rcases h2 with ⟨hv, _⟩ | ⟨g', cap, cur, hv, hb, hh, hnc, hm, hs, ht⟩
  · cases hv
  · injection hv with e1 e2 e3
    subst e3
    refine .inr ⟨g', c, cur, by rw [e1], hb, hh, by omega, hm, hs, ?_⟩
    rw [← ht, List.take_take, Nat.min_eq_left hle]
theorem own_put {w : World} {base : Nat} {e : TypeId} {g n c k : Nat} {vs : List Value} {x : Value} (h : w.ownsRow base e 1 (.slice (some ⟨g, 0, none⟩) n c) n vs) : (w.setCell ⟨g, k, none⟩ x).ownsRow base e 1 (.slice (some ⟨g, 0, none⟩) n c) n (vs.set k x) := by
  refine ⟨by simpa using h.1, .inr ?_⟩
  rcases h.2 with ⟨hv, _⟩ | ⟨g', cap, cur, hv, hb, hh, hnc, hm, hs, ht⟩
  · cases hv
  · injection hv with h1 h2 h3
    injection h1 with h1
    injection h1 with h1
    subst h1 h3
    rw [Nat.mul_one] at ht hs
    exact ⟨g, c, cur.setIfInBounds k x, rfl, hb, heap_setCell_same w g k cur e x hh, hnc, hm, by simpa using hs, by rw [Nat.mul_one, ← ht]; simp [List.take_set]⟩

section
variable {P : Program} {t e : TypeId} (ht : P.underlying t = some (.slice e)) {sz : Nat} (hs : (P.info? e).map (·.size) = some sz) (A : Option Addr) (n c m : Nat) (k : IntKind)
include ht hs
theorem elem_ofK : P.elem t = e := by unfold Program.elem; simp [ht]
theorem size_of_elemK (u : World) : (sizeOf (P.elem t)).run P u = .ok sz u := by
  obtain ⟨i, hi, h1⟩ := Option.map_eq_some_iff.1 hs
  rw [elem_ofK ht hs]
  simp [sizeOf, typeInfo, hi, h1]
theorem run_cutK_to (h : m ≤ c) (u : World) : (Instr.sliceAt t (.slice A n c) none (some (.int k (m : Int))) none).run P u = .ok (.slice A m c) u := by
  have ht' : P.underlying t = some (.slice (P.elem t)) := by rw [elem_ofK ht hs]; exact ht
  rw [run_sliceAt_slice u t _ _ _ _ ht', run_slice_h u t A n c ht' k m (by omega) (by omega), size_of_elemK ht hs]
  simp [Result.andThen, sliced, map_add_zero]
/-- What is left behind the first m. -/
def cutA (A : Option Addr) (c m sz : Nat) : Option Addr := if c = m then A else A.map (·.add (m * sz))
theorem run_cutK_from (h : m ≤ n) (hc : n ≤ c) (u : World) : (Instr.sliceAt t (.slice A n c) (some (.int k (m : Int))) none none).run P u = .ok (.slice (cutA A c m sz) (n - m) (c - m)) u := by
  have ht' : P.underlying t = some (.slice (P.elem t)) := by rw [elem_ofK ht hs]; exact ht
  rw [run_sliceAt_slice u t _ _ _ _ ht', run_slice_l u t A n c ht' k m (by omega) (by omega), size_of_elemK ht hs]
  by_cases hcm : c = m
  · subst hcm; simp [Result.andThen, sliced, cutA]
  · simp [Result.andThen, sliced, cutA, hcm]
end
end Go.Proofs.Ytbcldknecdbemaa

/-
  Maps of texts by texts (of no program): files; what is looked up, stored, deleted, counted, gone through, copied.
-/
namespace Go.Proofs.Ytbcldknecdbemaa
open Go.RowKit
set_option linter.unusedVariables false
set_option maxRecDepth 20000
set_option linter.unusedSectionVars false

theorem tv_inj {a b : Byts} (h : tv a = tv b) : a = b := by
  injection h with h
  injection h with h
  simpa using congrArg Array.toList h
abbrev kvs (S : Fls) : List (Value × Value) := S.map (fun x => (tv x.1, tv x.2))
abbrev ekv (es : Array MapEntry) : List (Value × Value) := es.toList.map (fun e => (e.key, e.val))
/-- Block b is a map that holds these files. -/
def Files (w : World) (b : Nat) (S : Fls) : Prop := ∃ es clock l, w.heap[b]? = some (.map es clock) ∧ MapKept.Stamped es clock ∧ ekv es = kvs l ∧ l.Perm S

section
variable {w w' : World} {b : Nat} {S S' : Fls}
theorem Files.lt (h : Files w b S) : b < w.heap.size := by
  obtain ⟨es, clock, l, hb, _⟩ := h
  exact (Array.getElem?_eq_some_iff.1 hb).1
theorem Files.at_ (h : Files w b S) (hb : w'.heap[b]? = w.heap[b]?) : Files w' b S := by
  obtain ⟨es, clock, l, h1, h2⟩ := h
  exact ⟨es, clock, l, hb.trans h1, h2⟩
theorem Files.later (h : Files w b S) (hg : Grows w w') : Files w' b S := h.at_ (hg.block b h.lt)
theorem Files.turned {Q : Nat → Prop} (h : Files w b S) (ht : Turns Q w w') (hn : ¬ Q b) : Files w' b S := h.at_ (ht.block b h.lt hn)
theorem Files.perm (h : Files w b S) (hp : S.Perm S') : Files w b S' := by
  obtain ⟨es, clock, l, h1, h2, h3, h4⟩ := h
  exact ⟨es, clock, l, h1, h2, h3, h4.trans hp⟩
theorem kv_nodup {es : Array MapEntry} {clock : Nat} {l : Fls} (hs : MapKept.Stamped es clock) (h : ekv es = kvs l) : (l.map (·.1)).Nodup := by
  have h1 : es.toList.map (·.key) = l.map (fun x => tv x.1) := by
    have := congrArg (List.map Prod.fst) h
    simpa [ekv, kvs, Function.comp_def] using this
  have h2 := hs.2.2
  rw [h1] at h2
  rw [List.Nodup, List.pairwise_map] at h2 ⊢
  exact h2.imp fun h e => h (by rw [e])
theorem Files.nodup (h : Files w b S) : (S.map (·.1)).Nodup := by
  obtain ⟨es, clock, l, h1, h2, h3, h4⟩ := h
  exact (h4.map _).nodup_iff.1 (kv_nodup h2 h3)
theorem Files.new (w : World) : Files (w.alloc (.map #[] 0)) w.heap.size [] := ⟨#[], 0, [], heap_alloc_new w _, MapKept.stamped_empty 0, rfl, List.Perm.refl _⟩
theorem kv_at {es : Array MapEntry} {l : Fls} (h : ekv es = kvs l) (j : Nat) {e : MapEntry} (he : es.toList[j]? = some e) : ∃ x, l[j]? = some x ∧ e.key = tv x.1 ∧ e.val = tv x.2 := by
  have := congrArg (fun m => m[j]?) h
  simp only [ekv, kvs, List.getElem?_map, he, Option.map_some] at this
  cases hl : l[j]? with
  | none => rw [hl] at this; cases this
  | some x =>
    rw [hl] at this
    simp only [Option.map_some, Option.some.injEq, Prod.mk.injEq] at this
    exact ⟨x, rfl, this.1, this.2⟩
theorem kv_isKey {es : Array MapEntry} {l : Fls} (h : ekv es = kvs l) : ∀ x ∈ es.toList, MapKept.IsKey .string x.key := fun x hx => by
  obtain ⟨j, hj⟩ := List.getElem?_of_mem hx
  obtain ⟨y, _, h1, _⟩ := kv_at h j hj
  rw [h1]; trivial
theorem get_at {l : Fls} (hn : (l.map (·.1)).Nodup) {j : Nat} {x : Byts × Byts} (hx : l[j]? = some x) : fGet l x.1 = some x.2 := by
  induction l generalizing j with
  | nil => simp at hx
  | cons y r ih =>
    rw [fGet_cons]
    cases j with
    | zero => simp at hx; subst hx; simp
    | succ j =>
      simp only [List.getElem?_cons_succ] at hx
      have h2 := List.nodup_cons.1 hn
      have hne : y.1 ≠ x.1 := fun e => h2.1 (by show y.1 ∈ r.map (·.1); rw [e]; exact List.mem_map.2 ⟨x, List.mem_of_getElem? hx, rfl⟩)
      rw [if_neg hne, ih h2.2 hx]
theorem set_perm1 {l : Fls} (hn : (l.map (·.1)).Nodup) {j : Nat} {x : Byts × Byts} (hx : l[j]? = some x) (v : Byts) : (l.set j (x.1, v)).Perm ((x.1, v) :: fDel l x.1) := by
  induction l generalizing j with
  | nil => simp at hx
  | cons y r ih =>
    have h2 := List.nodup_cons.1 hn
    cases j with
    | zero =>
      simp at hx; subst hx
      rw [List.set_cons_zero, fDel_cons, if_pos rfl, fDel_none (fGet_none.2 h2.1)]
    | succ j =>
      simp only [List.getElem?_cons_succ] at hx
      have hne : y.1 ≠ x.1 := fun e => h2.1 (by show y.1 ∈ r.map (·.1); rw [e]; exact List.mem_map.2 ⟨x, List.mem_of_getElem? hx, rfl⟩)
      rw [List.set_cons_succ, fDel_cons, if_neg hne]
      exact ((ih h2.2 hx).cons y).trans (List.Perm.swap _ _ _)
theorem erase_del {l : Fls} (hn : (l.map (·.1)).Nodup) {j : Nat} {x : Byts × Byts} (hx : l[j]? = some x) : l.eraseIdx j = fDel l x.1 := by
  induction l generalizing j with
  | nil => simp at hx
  | cons y r ih =>
    have h2 := List.nodup_cons.1 hn
    cases j with
    | zero =>
      simp at hx; subst hx
      rw [List.eraseIdx_cons_zero, fDel_cons, if_pos rfl, fDel_none (fGet_none.2 h2.1)]
    | succ j =>
      simp only [List.getElem?_cons_succ] at hx
      have hne : y.1 ≠ x.1 := fun e => h2.1 (by show y.1 ∈ r.map (·.1); rw [e]; exact List.mem_map.2 ⟨x, List.mem_of_getElem? hx, rfl⟩)
      rw [List.eraseIdx_cons_succ, fDel_cons, if_neg hne, ih h2.2 hx]
theorem del_perm {S S' : Fls} (h : S.Perm S') (p : Byts) : (fDel S p).Perm (fDel S' p) := h.filter _
end

section
variable {P : Program} {T K E : TypeId} (hT : P.underlying T = some (.map K E)) (hK : P.underlying K = some .string) {w : World} {b : Nat} {S : Fls} (p : Byts)
include hT hK

theorem Files.find (h : Files w b S) : ∃ es clock l, w.heap[b]? = some (.map es clock) ∧ MapKept.Stamped es clock ∧ ekv es = kvs l ∧ l.Perm S ∧
    ((fGet S p = none ∧ (Instr.findKey K (tv p) es.toList).run P w = .ok none w ∧ ∀ x ∈ es.toList, x.key ≠ tv p) ∨
     ∃ j e v, fGet S p = some v ∧ (Instr.findKey K (tv p) es.toList).run P w = .ok (some (j, tv v)) w ∧ es.toList[j]? = some e ∧ e.key = tv p ∧ l[j]? = some (p, v)) := by
  obtain ⟨es, clock, l, hb, hs, hl, hp⟩ := h
  refine ⟨es, clock, l, hb, hs, hl, hp, ?_⟩
  have hn := kv_nodup hs hl
  rcases MapKept.findNow_spec (d := .string) (k := tv p) trivial es.toList 0 (kv_isKey hl) with ⟨h1, h2⟩ | ⟨j, e, h1, h2, h3⟩
  · refine .inl ⟨?_, MapKept.run_findKey hK h1, h2⟩
    rw [← get_perm hp hn, fGet_none]
    intro hm
    obtain ⟨x, hx, e⟩ := List.mem_map.1 hm
    have : (tv x.1, tv x.2) ∈ ekv es := by rw [hl]; exact List.mem_map_of_mem hx
    obtain ⟨y, hy, e1⟩ := List.mem_map.1 this
    injection e1 with e2 e3
    exact h2 y hy (by rw [e2, e])
  · obtain ⟨x, hx, e1, e2⟩ := kv_at hl j h2
    obtain rfl : x.1 = p := tv_inj (e1.symm.trans h3)
    refine .inr ⟨j, e, x.2, ?_, ?_, h2, h3, hx⟩
    · rw [← get_perm hp hn]; exact get_at hn hx
    · rw [MapKept.run_findKey hK h1, Nat.zero_add, e2]

/-- m[k] -/
theorem Files.get (hE : ∀ w : World, (zeroValue E).run P w = .ok (tv []) w) (h : Files w b S) (okk : Bool) :
    (Instr.lookup T (.map (some b)) (tv p) okk).run P w = .ok (if okk then .tuple #[tv ((fGet S p).getD []), .bool (fGet S p).isSome] else tv ((fGet S p).getD [])) w := by
  obtain ⟨es, clock, l, hb, hs, hl, hp, h⟩ := Files.find hT hK p h
  have hg := MapKept.run_getObj_map (P := P) hb
  have hc := fun em => MapKept.run_checkKey (w := w) hK (k := tv p) trivial em 9999
  unfold Instr.lookup
  simp only [Sem.run_bind, run_underlying hT, hg, Result.andThen_ok, Sem.run_pure, hc]
  rcases h with ⟨h1, h2, _⟩ | ⟨j, e, v, h1, h2, _⟩
  · simp [h1, h2, hE w]
  · simp [h1, h2]

theorem heap_set_by (w : World) (b : Nat) (o : Obj) : w.grownBy { w with heap := w.heap.setIfInBounds b o } (some b) := by
  refine ⟨rfl, rfl, rfl, by simp, fun k hk hne => ?_⟩
  have : b ≠ k := fun e => hne (by rw [e])
  simp [Array.getElem?_setIfInBounds_ne this]

/-- m[k] = v -/
theorem Files.put (h : Files w b S) (v : Byts) : ∃ w', (Instr.mapUpdate T (.map (some b)) (tv p) (tv v)).run P w = .ok () w' ∧ Files w' b (fPut S p v) ∧ w.grownBy w' (some b) ∧ w'.heap.size = w.heap.size := by
  have hlt := h.lt
  obtain ⟨es, clock, l, hb, hs, hl, hp, h⟩ := Files.find hT hK p h
  have hn := kv_nodup hs hl
  have hg := MapKept.run_getObj_map (P := P) hb
  have hc := fun em => MapKept.run_checkKey (w := w) hK (k := tv p) trivial em 9999
  have hset := fun o => MapKept.run_setObj_map (P := P) o hb
  have hat := fun o : Obj => (MapKept.heap_set (o' := o) hb).1
  have pp : ((p, v) :: fDel l p).Perm (fPut S p v) := (((del_perm hp p).cons _)).trans (fPut_perm S).symm
  rcases h with ⟨h1, h2, h3⟩ | ⟨j, e, v0, h1, h2, h3, h4, h5⟩
  · refine ⟨_, ?_, ⟨es.push { key := tv p, val := tv v, born := clock }, clock + 1, l ++ [(p, v)], hat _, MapKept.stamped_push hs h3, ?_, ?_⟩, heap_set_by hT hK w b _, by simp⟩
    · unfold Instr.mapUpdate
      simp only [Sem.run_bind, run_underlying hT, hg, Result.andThen_ok, hc, h2, hset]
    · simp only [ekv, kvs, Array.toList_push, List.map_append] at hl ⊢
      rw [hl]; rfl
    · have hd : fDel l p = l := fDel_none (by rw [get_perm hp hn]; exact h1)
      rw [hd] at pp
      exact (List.perm_append_comm (l₁ := l) (l₂ := [(p, v)])).trans pp
  · have hk := MapKept.run_keyThatStays (P := P) (w := w) (d := .string) (k := tv p) trivial
    have hkey : (es[j]?).map (·.key) = some (tv p) := by
      rw [← Array.getElem?_toList, h3]; simp [h4]
    refine ⟨_, ?_, ⟨es.modify j (fun e => { e with key := tv p, val := tv v }), clock, l.set j (p, v), hat _, MapKept.stamped_modify hs j _ (fun _ _ => rfl) (fun e' _ he' => ?_), ?_, ?_⟩, heap_set_by hT hK w b _, by simp⟩
    · unfold Instr.mapUpdate
      simp only [Sem.run_bind, run_underlying hT, hg, Result.andThen_ok, hc, h2]
      rw [hkey]
      simp only [Option.getD_some, hk, Result.andThen_ok, hset]
    · rw [he'] at hkey
      simpa using hkey.symm
    · apply List.ext_getElem?
      intro i
      have hi := congrArg (fun m => m[i]?) hl
      simp only [ekv, kvs, List.getElem?_map, Array.getElem?_toList, Array.getElem?_modify, List.getElem?_set] at hi ⊢
      by_cases hij : j = i
      · subst hij
        have hjl : j < l.length := (List.getElem?_eq_some_iff.1 h5).1
        rw [← Array.getElem?_toList, h3]
        simp [hjl]
      · simpa [hij] using hi
    · exact (set_perm1 hn h5 v).trans pp

/-- delete(m, k) -/
theorem Files.del (h : Files w b S) (ty kt : TypeId) : ∃ w', (Builtin.delete_ #[T, kt] ty #[.map (some b), tv p]).run P w = .ok (.tuple #[]) w' ∧ Files w' b (fDel S p) ∧ w.grownBy w' (some b) ∧ w'.heap.size = w.heap.size := by
  have hlt := h.lt
  obtain ⟨es, clock, l, hb, hs, hl, hp, h⟩ := Files.find hT hK p h
  have hn := kv_nodup hs hl
  have hg := MapKept.run_getObj_map (P := P) hb
  have hc := fun em => MapKept.run_checkKey (w := w) hK (k := tv p) trivial em 9999
  have hset := fun o => MapKept.run_setObj_map (P := P) o hb
  have hat := fun o : Obj => (MapKept.heap_set (o' := o) hb).1
  rcases h with ⟨h1, h2, h3⟩ | ⟨j, e, v0, h1, h2, h3, h4, h5⟩
  · refine ⟨_, ?_, ⟨es, clock, l, hat _, hs, hl, ?_⟩, heap_set_by hT hK w b _, by simp⟩
    · unfold Builtin.delete_
      simp only [List.getElem?_toArray, List.getElem?_cons_zero, List.getElem?_cons_succ]
      simp only [Sem.run_bind, run_underlying hT, hg, Result.andThen_ok, hc, h2, hset, Sem.run_pure]
    · rw [fDel_none h1]; exact hp
  · have hj : j < es.size := by
      have := (List.getElem?_eq_some_iff.1 h3).1
      simpa using this
    have he : (es.eraseIdxIfInBounds j).toList = es.toList.eraseIdx j := by
      unfold Array.eraseIdxIfInBounds
      rw [dif_pos hj]
      simp
    refine ⟨_, ?_, ⟨es.eraseIdxIfInBounds j, clock, l.eraseIdx j, hat _, MapKept.stamped_erase hs j, ?_, ?_⟩, heap_set_by hT hK w b _, by simp⟩
    · unfold Builtin.delete_
      simp only [List.getElem?_toArray, List.getElem?_cons_zero, List.getElem?_cons_succ]
      simp only [Sem.run_bind, run_underlying hT, hg, Result.andThen_ok, hc, h2, hset, Sem.run_pure]
    · simp only [ekv, kvs, he] at hl ⊢
      rw [ChangeMaps.map_eraseIdx, hl, ChangeMaps.map_eraseIdx]
    · rw [erase_del hn h5]; exact del_perm hp p
end
end Go.Proofs.Ytbcldknecdbemaa

/-
  path.pieces: what stands between each / of a text. Condition: at most a million bytes.
-/
namespace Go.Proofs.Ytbcldknecdbemaa
open Go.RowKit
set_option linter.unusedVariables false
set_option maxRecDepth 20000

theorem str_info : (Try.prog.info? 9).map (fun i => (i.zero, i.size, i.bytes)) = some (some (.string ⟨#[]⟩), 1, 16) := by kernel_rfl

/-- Texts that lie there: a []string. -/
structure Texts (w : World) (A : Option Addr) (n c : Nat) (ls : List (List UInt8)) : Prop where
  len : ls.length = n
  le : n ≤ c
  cap : c ≤ maxLen
  lies : Lies w w.heap.size A (ls.map tv)
  plain : A = none ∨ ∃ b o, A = some ⟨b, o, none⟩
theorem Texts.later {w w' : World} {A : Option Addr} {n c : Nat} {ls : List (List UInt8)} (h : Texts w A n c ls) (hg : Grows w w') : Texts w' A n c ls := ⟨h.len, h.le, h.cap, h.lies.later hg, h.plain⟩
theorem Texts.of_own {w : World} {base : Nat} {v : Value} {n : Nat} {ls : List (List UInt8)} (hl : ls.length = n) (h : w.ownsRow base 9 1 v n (ls.map tv)) : ∃ A c, v = .slice A n c ∧ Texts w A n c ls := by
  have h0 := h
  obtain ⟨A, c, rfl, hc⟩ := own_form h
  refine ⟨A, c, rfl, hl, hc, ?_, Lies.of_own h0, ?_⟩
  · rcases h0.2 with ⟨e, _⟩ | ⟨g, cap, cur, e, _, _, _, h4, _⟩
    · injection e with _ _ e; unfold maxLen; omega
    · injection e with _ _ e; subst e; first | exact h4 | omega
  · rcases h0.2 with ⟨e, _⟩ | ⟨g, cap, cur, e, _⟩
    · injection e with e; exact .inl e
    · injection e with e; exact .inr ⟨g, 0, e⟩
theorem own_base {w : World} {base base' : Nat} {e : TypeId} {size : Nat} {v : Value} {n : Nat} {xs : List Value} (h : w.ownsRow base e size v n xs) (hb : base' ≤ base) : w.ownsRow base' e size v n xs := by
  obtain ⟨h1, h2⟩ := h
  refine ⟨h1, ?_⟩
  rcases h2 with h2 | ⟨g, cap, cur, a, b, c⟩
  · exact .inl h2
  · exact .inr ⟨g, cap, cur, a, by omega, c⟩
theorem tcut (l : List UInt8) (a b : Nat) : (⟨l.toArray⟩ : ByteArray).extract a b = ⟨((l.drop a).take (b - a)).toArray⟩ := ByteArray.extract_mk l a b
theorem run_tcut (l : List UInt8) (a b : Nat) (hab : a ≤ b) (hb : b ≤ l.length) (x y : Int) (hx : x = (a : Int)) (hy : y = (b : Int)) (w : World) :
    (Instr.slice 9 (tv l) (some (.int .i64 x)) (some (.int .i64 y)) none).run Try.prog w = .ok (tv ((l.drop a).take (b - a))) w := by
  subst hx hy
  rw [run_slice_string w 9 _ .i64 .i64 (a : Int) (b : Int) Try.underlying9 (by omega) (by omega) (by rw [size_mk]; omega), tcut]
  rfl
theorem run_tfrom (l : List UInt8) (a : Nat) (ha : a ≤ l.length) (x : Int) (hx : x = (a : Int)) (w : World) :
    (Instr.slice 9 (tv l) (some (.int .i64 x)) none none).run Try.prog w = .ok (tv (l.drop a)) w := by
  subst hx
  rw [run_slice_string_from_if w 9 _ .i64 (a : Int) Try.underlying9, if_pos ⟨by omega, by rw [size_mk]; omega⟩, tcut, size_mk]
  rw [List.take_of_length_le (by simp)]
  rfl

theorem drop_step (l : List UInt8) (p k : Nat) : l.drop p = (l.drop p).take k ++ l.drop (p + k) := by
  rw [← List.drop_drop, List.take_append_drop]
theorem seg_more (l : List UInt8) (b p k : Nat) (hb : b ≤ p) : (l.drop b).take (p - b) ++ (l.drop p).take k = (l.drop b).take (p + k - b) := by
  rw [show p + k - b = (p - b) + k by omega, List.take_add, List.drop_drop, show b + (p - b) = p by omega]
theorem pieces_round {l : List UInt8} {b p r k : Nat} (hb : b ≤ p) (h : Step l p r k) (hr : r ≠ 47) :
    piecesGo (l.drop p) ((l.drop b).take (p - b)) = piecesGo (l.drop (p + k)) ((l.drop b).take (p + k - b)) := by
  rw [← seg_more l b p k hb]
  conv => lhs; rw [drop_step l p k]
  exact pieces_run (fun e => h.free (c := 47) (by omega) hr 47 e rfl) _ _
theorem pieces_here {l : List UInt8} {b p r k : Nat} (h : Step l p r k) (hr : r = 47) :
    k = 1 ∧ piecesGo (l.drop p) ((l.drop b).take (p - b)) = (l.drop b).take (p - b) :: piecesGo (l.drop (p + 1)) ((l.drop (p + 1)).take (p + 1 - (p + 1))) := by
  obtain ⟨h1, x, hx, hc⟩ := h.here (c := 47) (by omega) hr
  refine ⟨h1, ?_⟩
  have e : x = 47 := UInt8.toNat_inj.1 hc
  subst e
  have hlt : p < l.length := (List.getElem?_eq_some_iff.1 hx).1
  rw [List.drop_eq_getElem_cons hlt, (List.getElem?_eq_some_iff.1 hx).2, piecesGo, if_pos rfl, Nat.sub_self, List.take_zero]

end Go.Proofs.Ytbcldknecdbemaa

/-
  strings.IndexByte at the byte 0, strings.HasPrefix, strings.Clone (off the library's shelf), maps.Clone at texts.
-/
namespace Go.Proofs.Ytbcldknecdbemaa
open Go.RowKit
set_option linter.unusedVariables false
set_option maxRecDepth 20000

theorem zero_all (l : Byts) : decide (Lib.indexByte l 0 < 0) = l.all (fun c => c != 0) := by
  induction l with
  | nil => rfl
  | cons b l ih =>
    have hge := Lib.indexByte_ge l 0
    rw [Lib.indexByte, List.all_cons, ← ih]
    by_cases hb : b = 0
    · subst hb; simp
    · have h1 : (b == 0) = false := by simpa using hb
      have h2 : (b != 0) = true := by simpa using hb
      rw [h1, h2, Bool.true_and]
      by_cases hm : Lib.indexByte l 0 = -1
      · simp [hm]
      · have h3 : (Lib.indexByte l 0 == -1) = false := by simpa using hm
        simp only [h3, Bool.false_eq_true, if_false]
        rw [Bool.eq_iff_iff]
        simp only [decide_eq_true_eq]
        omega
theorem ixb_run (l : Byts) (w : World) : (callFunc 77 #[tv l, .int .u8 0]).run Try.prog w = .ok (.value (.int .i64 (Lib.indexByte l 0))) w := by
  rw [run_callFunc_extern Try.func77 (by kernel_rfl) (by kernel_rfl) (by kernel_rfl) (e := Extern.BytealgIndexByte.indexByte) (by kernel_rfl), Lib.run_indexByteString]
  rfl
theorem ixb1_any (l : Byts) (w : World) : Calls Try.prog 70 #[tv l, .int .u8 0] w fun e w' => e = .returned (.int .i64 (Lib.indexByte l 0)) ∧ w' = w := by
  have hr := ixb_run l
  generalize Lib.indexByte l 0 = z at *
  go_enter Try.func70, Try.ntmps70
  go_wp2
  go_ret
  exact ⟨rfl, rfl⟩
theorem ixb0_any (l : Byts) (w : World) : Calls Try.prog 56 #[tv l, .int .u8 0] w fun e w' => e = .returned (.int .i64 (Lib.indexByte l 0)) ∧ w' = w := by
  have hC := ixb1_any l w
  generalize Lib.indexByte l 0 = z at *
  go_enter Try.func56, Try.ntmps56
  go_wp2_with fail
  refine hC.mono ?_
  rintro e w' ⟨rfl, rfl⟩
  go_wp2
  go_ret
  exact ⟨rfl, rfl⟩

theorem run_tto (l : Byts) (a : Nat) (ha : a ≤ l.length) (x : Int) (hx : x = (a : Int)) (w : World) :
    (Instr.slice 9 (tv l) none (some (.int .i64 x)) none).run Try.prog w = .ok (tv (l.take a)) w := by
  subst hx
  rw [run_slice_string_to_if w 9 _ .i64 (a : Int) Try.underlying9, if_pos ⟨by omega, by rw [size_mk]; omega⟩, Int.toNat_natCast, tcut]
  simp
/-- Does s begin with p? -/
def prefB (s p : Byts) : Bool := s.take p.length == p
theorem hpre1_any (s p : Byts) (w : World) : Calls Try.prog 51 #[tv s, tv p] w fun e w' => e = .returned (.bool (prefB s p)) ∧ w' = w := by
  have h1 := size_mk s
  have h2 := size_mk p
  by_cases hl : p.length ≤ s.length
  · have d1 : decide ((s.length : Int) ≥ (p.length : Int)) = true := by simp; omega
    have hto := fun u => run_tto s p.length hl (p.length : Int) rfl u
    have he : ∀ t, binOp .eql t (tv (s.take p.length)) (tv p) = (pure (.bool (prefB s p)) : Sem Value) := fun t => run_teq (P := Try.prog) t _ _
    generalize prefB s p = z at *
    generalize s.take p.length = q at *
    go_enter Try.func51, Try.ntmps51
    go_wp2
    go_ret
    exact ⟨rfl, rfl⟩
  · have d1 : decide ((s.length : Int) ≥ (p.length : Int)) = false := by simp; omega
    have hz : prefB s p = false := by
      unfold prefB
      have : s.take p.length ≠ p := fun e => by
        have := congrArg List.length e
        rw [List.length_take] at this
        omega
      simpa using this
    rw [hz]
    go_enter Try.func51, Try.ntmps51
    go_wp2
    go_ret
    exact ⟨rfl, rfl⟩
theorem hpre_any (s p : Byts) (w : World) : Calls Try.prog 38 #[tv s, tv p] w fun e w' => e = .returned (.bool (prefB s p)) ∧ w' = w := by
  have hC := hpre1_any s p w
  generalize prefB s p = z at *
  go_enter Try.func38, Try.ntmps38
  go_wp2_with fail
  refine hC.mono ?_
  rintro e w' ⟨rfl, rfl⟩
  go_wp2
  go_ret
  exact ⟨rfl, rfl⟩

def clnRen : Go.Shelf.Ren := ⟨fun | 316 => 57 | n => n, fun | 0 => 0 | 3 => 3 | 4 => 4 | 5 => 5 | 9 => 9 | 37 => 35 | 127 => 117 | n => n, fun | n => n⟩
theorem clnLays : Go.Proofs.LaysM.n316 Try.prog clnRen := {
  mixed := by kernel_rfl
  f316 := Try.func57.trans (congrArg some (by kernel_rfl))
  t0 := Try.underlying0
  a0 := Try.isAgg0
  z0 := Try.sizeOf0
  v0 := Try.zeroValue0
  t3 := Try.underlying3
  a3 := Try.isAgg3
  z3 := Try.sizeOf3
  v3 := Try.zeroValue3
  t4 := Try.underlying4
  a4 := Try.isAgg4
  z4 := Try.sizeOf4
  v4 := Try.zeroValue4
  t9 := Try.underlying9
  a9 := Try.isAgg9
  z9 := Try.sizeOf9
  v9 := Try.zeroValue9
  t37 := Try.underlying35
  a37 := Try.isAgg35
  z37 := Try.sizeOf35
  v37 := Try.zeroValue35
  t127 := Try.underlying117
  a127 := Try.isAgg117
  z127 := Try.sizeOf117
  v127 := Try.zeroValue117
  t5 := Try.underlying5
  a5 := Try.isAgg5
  z5 := Try.sizeOf5
  v5 := Try.zeroValue5
  i0 := by kernel_rfl
  i3 := by kernel_rfl
  i4 := by kernel_rfl
  i5 := by kernel_rfl
  i9 := by kernel_rfl
  i37 := by kernel_rfl
  i127 := by kernel_rfl }
theorem tclone_any (s : Byts) (w : World) (hl : s.length ≤ 100000000) : Calls Try.prog 46 #[tv s] w fun e w' => e = .returned (tv s) ∧ Grows w w' := by
  have hC := Any.stringslite_Clone clnLays ⟨s.toArray⟩ w (by rw [size_mk]; omega)
  go_enter Try.func46, Try.ntmps46
  go_wp2_with fail
  refine hC.mono ?_
  rintro e w' ⟨rfl, hB⟩
  go_wp2
  go_ret
  exact ⟨rfl, hB⟩

theorem mclone_any (b : Nat) (S : Fls) (w : World) (h : Files w b S) : Calls Try.prog 50 #[.map (some b)] w fun e w' => e = .returned (.map (some w.heap.size)) ∧ Files w' w.heap.size S ∧ Grows w w' := by
  obtain ⟨es, clock, l, hb, hs, hl, hp⟩ := h
  have h1 := fun u => run_eql_map_nil_sl (P := Try.prog) u 50 _ _ (some b) Try.underlying50
  have h2 : (callFunc 58 #[.iface 50 (.map (some b))]).run Try.prog w = .ok (.value (.iface 50 (.map (some w.heap.size)))) (w.alloc (.map es clock)) := by
    rw [run_callFunc_extern Try.func58 (by kernel_rfl) (by kernel_rfl) (by kernel_rfl) (e := Extern.MapsClone.clone) (by kernel_rfl), run_maps_clone_sl w 50 hb]
    simp only [Result.andThen]
  have h3 := fun v u => run_typeAssert_map_sl (P := Try.prog) u 50 20 _ _ v Try.underlying50
  go_enter Try.func50, Try.ntmps50
  go_wp2
  go_ret
  exact ⟨rfl, ⟨es, clock, l, heap_alloc_new w _, hs, hl, hp⟩, grows_alloc _ _⟩
end Go.Proofs.Ytbcldknecdbemaa

/-
  slices.Sort at texts, off the library's shelf: texts of the call's own, sorted.
-/
namespace Go.Proofs.Ytbcldknecdbemaa
open Go.RowKit
set_option linter.unusedVariables false
set_option maxRecDepth 20000

theorem lt_cmp : ∀ x y : Byts, x < y ↔ cmpB x y = -1
  | [], [] => by simp [cmpB]
  | [], _ :: _ => by simp [cmpB]
  | _ :: _, [] => by simp [cmpB]
  | a :: x, b :: y => by
    rw [List.cons_lt_cons_iff, lt_cmp x y, cmpB, UInt8.lt_iff_toNat_lt, ← UInt8.toNat_inj]
    by_cases h1 : a.toNat < b.toNat
    · simp [h1]
    · by_cases h2 : b.toNat < a.toNat
      · rw [if_neg h1, if_pos h2]
        constructor
        · intro h; omega
        · intro h; omega
      · rw [if_neg h1, if_neg h2]
        constructor
        · rintro (h | h)
          · omega
          · exact h.2
        · intro h; exact .inr ⟨by omega, h⟩
theorem le_cmp (x y : Byts) : x ≤ y ↔ cmpB x y ≤ 0 := by
  rw [← List.not_lt, lt_cmp]
  have h1 := cmpB_val x y
  have h2 := cmpB_anti x y
  omega
theorem sort_is {ls ts : List Byts} (hp : ls.Perm ts) (hs : ts.Pairwise (fun x y => cmpB x y = -1)) : ls.mergeSort (fun x y => decide (x ≤ y)) = ts := by
  have tr : ∀ a b c : Byts, decide (a ≤ b) = true → decide (b ≤ c) = true → decide (a ≤ c) = true := fun a b c h1 h2 => by simp only [decide_eq_true_eq] at *; exact List.le_trans h1 h2
  have to : ∀ a b : Byts, (decide (a ≤ b) || decide (b ≤ a)) = true := fun a b => by simp only [Bool.or_eq_true, decide_eq_true_eq]; exact List.le_total a b
  refine List.Perm.eq_of_pairwise (le := fun (a b : Byts) => decide (a ≤ b) = true) (fun a b _ _ h1 h2 => ?_) (List.pairwise_mergeSort tr to ls) (hs.imp fun h => ?_) ((List.mergeSort_perm ls _).trans hp)
  · simp only [decide_eq_true_eq] at h1 h2
    exact List.le_antisymm h1 h2
  · simp only [decide_eq_true_eq, le_cmp]; omega

def sortRen : Go.Shelf.Ren := ⟨fun | 125 => 53 | 128 => 68 | 129 => 69 | 190 => 39 | 258 => 52 | 302 => 59 | 303 => 60 | 304 => 61 | 305 => 62 | 306 => 63 | 307 => 64 | 308 => 65 | 309 => 66 | 310 => 67 | 329 => 72 | 330 => 73 | 333 => 71 | 334 => 74 | 335 => 75 | 336 => 76 | 344 => 78 | n => n, fun | 0 => 0 | 3 => 3 | 4 => 4 | 5 => 5 | 9 => 9 | 31 => 46 | 46 => 99 | 51 => 114 | 53 => 116 | 131 => 111 | 182 => 106 | 183 => 107 | 218 => 118 | 222 => 122 | 228 => 124 | 229 => 125 | n => n, fun | n => n⟩
theorem sortLays : Go.Proofs.Lays.n190 Try.prog sortRen := {
  mixed := by kernel_rfl
  f125 := Try.func53.trans (congrArg some (by kernel_rfl))
  f128 := Try.func68.trans (congrArg some (by kernel_rfl))
  f129 := Try.func69.trans (congrArg some (by kernel_rfl))
  f190 := Try.func39.trans (congrArg some (by kernel_rfl))
  f258 := Try.func52.trans (congrArg some (by kernel_rfl))
  f302 := Try.func59.trans (congrArg some (by kernel_rfl))
  f303 := Try.func60.trans (congrArg some (by kernel_rfl))
  f304 := Try.func61.trans (congrArg some (by kernel_rfl))
  f305 := Try.func62.trans (congrArg some (by kernel_rfl))
  f306 := Try.func63.trans (congrArg some (by kernel_rfl))
  f307 := Try.func64.trans (congrArg some (by kernel_rfl))
  f308 := Try.func65.trans (congrArg some (by kernel_rfl))
  f309 := Try.func66.trans (congrArg some (by kernel_rfl))
  f310 := Try.func67.trans (congrArg some (by kernel_rfl))
  f329 := Try.func72.trans (congrArg some (by kernel_rfl))
  f330 := Try.func73.trans (congrArg some (by kernel_rfl))
  f333 := Try.func71.trans (congrArg some (by kernel_rfl))
  f334 := Try.func74.trans (congrArg some (by kernel_rfl))
  f335 := Try.func75.trans (congrArg some (by kernel_rfl))
  f336 := Try.func76.trans (congrArg some (by kernel_rfl))
  f344 := Try.func78.trans (congrArg some (by kernel_rfl))
  t0 := Try.underlying0
  a0 := Try.isAgg0
  z0 := Try.sizeOf0
  v0 := Try.zeroValue0
  t3 := Try.underlying3
  a3 := Try.isAgg3
  z3 := Try.sizeOf3
  v3 := Try.zeroValue3
  t4 := Try.underlying4
  a4 := Try.isAgg4
  z4 := Try.sizeOf4
  v4 := Try.zeroValue4
  t5 := Try.underlying5
  a5 := Try.isAgg5
  z5 := Try.sizeOf5
  v5 := Try.zeroValue5
  t9 := Try.underlying9
  a9 := Try.isAgg9
  z9 := Try.sizeOf9
  v9 := Try.zeroValue9
  t31 := Try.underlying46
  a31 := Try.isAgg46
  z31 := Try.sizeOf46
  v31 := Try.zeroValue46
  t46 := Try.underlying99
  a46 := Try.isAgg99
  z46 := Try.sizeOf99
  v46 := Try.zeroValue99
  t51 := Try.underlying114
  a51 := Try.isAgg114
  z51 := Try.sizeOf114
  v51 := Try.zeroValue114
  t53 := Try.underlying116
  a53 := Try.isAgg116
  z53 := Try.sizeOf116
  v53 := Try.zeroValue116
  t131 := Try.underlying111
  a131 := Try.isAgg111
  z131 := Try.sizeOf111
  v131 := Try.zeroValue111
  t182 := Try.underlying106
  a182 := Try.isAgg106
  z182 := Try.sizeOf106
  v182 := Try.zeroValue106
  t183 := Try.underlying107
  a183 := Try.isAgg107
  z183 := Try.sizeOf107
  v183 := Try.zeroValue107
  t218 := Try.underlying118
  a218 := Try.isAgg118
  z218 := Try.sizeOf118
  v218 := Try.zeroValue118
  t222 := Try.underlying122
  a222 := Try.isAgg122
  z222 := Try.sizeOf122
  v222 := Try.zeroValue122
  t228 := Try.underlying124
  a228 := Try.isAgg124
  z228 := Try.sizeOf124
  v228 := Try.zeroValue124
  t229 := Try.underlying125
  a229 := Try.isAgg125
  z229 := Try.sizeOf125
  v229 := Try.zeroValue125 }
theorem ins0_any (w : World) : Calls Try.prog 59 #[.slice none 0 0, .int .i64 0, .int .i64 0] w fun e w' => e = .returned (.tuple #[]) ∧ w' = w := by
  go_enter Try.func59, Try.ntmps59
  go_wp2_with fail
  go_loopg [6] 0 (fun k v wr => v = .int .i64 1 ∧ wr = w)
  case atStart => exact ⟨rfl, rfl⟩
  case round =>
    obtain ⟨rfl, rfl⟩ := hrel
    go_wp2_with fail
    go_end0
    exact ⟨rfl, rfl⟩
theorem pdq0_any (z : Int) (w : World) : Calls Try.prog 52 #[.slice none 0 0, .int .i64 0, .int .i64 0, .int .i64 z] w fun e w' => e = .returned (.tuple #[]) ∧ w' = w := by
  go_enter Try.func52, Try.ntmps52
  go_wp2_with fail
  go_loopg [1, 2] 0 (fun k v1 v2 wr => v1 = .int .i64 0 ∧ v2 = .int .i64 0 ∧ wr = w)
  case atStart => exact ⟨rfl, rfl, rfl⟩
  case round =>
    obtain ⟨rfl, rfl, rfl⟩ := hrel
    go_wp2_with fail
    refine (ins0_any _).mono ?_
    rintro e w2 ⟨rfl, rfl⟩
    go_wp2_with fail
    (try simp only [Exit.inBlock, Exit.then])
    refine bodyPost_ret (results_none rfl _ _ _) rfl ?_
    exact ⟨rfl, rfl⟩
theorem len64_0 (w : World) : Calls Try.prog 69 #[.int .u64 0] w fun e w' => e = .returned (.int .i64 0) ∧ w' = w := by
  have h0 : wrap64 (wrap64 (Lib.len8 0)) = 0 := by kernel_rfl
  go_enter Try.func69, Try.ntmps69
  go_wp2
  go_ret
  exact ⟨by simp [h0], rfl⟩
theorem blen_0 (w : World) : Calls Try.prog 53 #[.int .u64 0] w fun e w' => e = .returned (.int .i64 0) ∧ w' = w := by
  go_enter Try.func53, Try.ntmps53
  go_wp2_with fail
  refine (len64_0 _).mono ?_
  rintro e w2 ⟨rfl, rfl⟩
  go_wp2
  go_ret
  exact ⟨rfl, rfl⟩
theorem sort0_any (w : World) : Calls Try.prog 39 #[.slice none 0 0] w fun e w' => e = .returned (.tuple #[]) ∧ w' = w := by
  go_enter Try.func39, Try.ntmps39
  go_wp2_with fail
  refine (blen_0 _).mono ?_
  rintro e w2 ⟨rfl, rfl⟩
  go_wp2_with fail
  refine (pdq0_any _ _).mono ?_
  rintro e w2 ⟨rfl, rfl⟩
  go_wp2
  go_end0
  exact ⟨rfl, rfl⟩
/-- slices.Sort of texts of the call's own. -/
theorem sort_any {base n : Nat} {v : Value} {ls ts : List Byts} (w : World) (hl : ls.length = n) (hn : n ≤ 1000000) (h : w.ownsRow base 9 1 v n (ls.map tv)) (hp : ls.Perm ts) (hs : ts.Pairwise (fun x y => cmpB x y = -1)) :
    Calls Try.prog 39 #[v] w fun e w' => e = .returned (.tuple #[]) ∧ w'.ownsRow base 9 1 v n (ts.map tv) ∧ w.grownBy w' v.ownBlock := by
  have hlt : ts.length = n := by rw [← hp.length_eq]; exact hl
  rcases h.2 with ⟨rfl, h0⟩ | ⟨g, cap, cur, rfl, hbase, hb, h1, h2, h3, h4⟩
  · subst h0
    refine (sort0_any w).mono ?_
    rintro e w' ⟨rfl, rfl⟩
    obtain rfl : ts = [] := List.eq_nil_of_length_eq_zero hlt
    exact ⟨rfl, World.ownsRow_nil _ _ _ _, ⟨rfl, rfl, rfl, Nat.le_refl _, fun _ _ _ => rfl⟩⟩
  · subst hl
    have hH := holds_of_block (ss := ls) hb (by simpa using h4)
    have hc := Any.slices_Sort_string sortLays g 0 cap ls w hH (Array.getElem?_eq_some_iff.1 hb).1 (by omega)
    rw [sort_is hp hs] at hc
    refine hc.mono ?_
    rintro e w' ⟨rfl, nn, os, rfl⟩
    exact ⟨rfl, ownsRow_sorted hlt hbase hb h1 h2 h3, grownBy_sorted _⟩
end Go.Proofs.Ytbcldknecdbemaa

/-
  disk's own: files in a struct: has, drop, put, copied; what a name may be.
-/
namespace Go.Proofs.Ytbcldknecdbemaa
open Go.RowKit
set_option linter.unusedVariables false
set_option maxRecDepth 20000

theorem map_zero (w : World) : (zeroValue 9).run Try.prog w = .ok (tv []) w := by kernel_rfl
/-- A struct of files in block a, from o on, its map in block b. -/
structure FAt (w : World) (a o b : Nat) (S : Fls) (vs : List Value) : Prop where
  has : Has w a vs
  map : vs[o]? = some (.map (some b))
  used : vs[o + 1]? = some (.int .i64 (fUsed S : Int))
  files : Files w b S
  ne : a ≠ b
/-- The two blocks. -/
def AB (a b : Nat) (k : Nat) : Prop := k = a ∨ k = b
theorem FAt.later {w w' : World} {a o b : Nat} {S : Fls} {vs : List Value} (h : FAt w a o b S vs) (hg : Grows w w') : FAt w' a o b S vs := ⟨h.has.later hg, h.map, h.used, h.files.later hg, h.ne⟩
theorem FAt.turned {w w' : World} {a o b : Nat} {S : Fls} {vs : List Value} {Q : Nat → Prop} (h : FAt w a o b S vs) (ht : Turns Q w w') (h1 : ¬ Q a) (h2 : ¬ Q b) : FAt w' a o b S vs := ⟨h.has.turned ht h1, h.map, h.used, h.files.turned ht h2, h.ne⟩
theorem FAt.below {w : World} {a o b : Nat} {S : Fls} {vs : List Value} (h : FAt w a o b S vs) : o + 1 < vs.length := (List.getElem?_eq_some_iff.1 h.used).1

section
variable (a o b : Nat) (S : Fls) (vs : List Value) (p : Byts) (w : World)
theorem get_any (h : Files w b S) (okk : Bool) : (Instr.lookup 50 (.map (some b)) (tv p) okk).run Try.prog w = .ok (if okk then .tuple #[tv ((fGet S p).getD []), .bool (fGet S p).isSome] else tv ((fGet S p).getD [])) w :=
  h.get Try.underlying50 Try.underlying9 p map_zero okk
theorem fhas_any (h : FAt w a o b S vs) : Calls Try.prog 44 #[.pointer (some ⟨a, o, none⟩), tv p] w fun e w' => e = .returned (.bool (fGet S p).isSome) ∧ w' = w := by
  have c0 := h.has.cell h.map
  have hg := get_any b S p w h.files true
  simp only [if_true] at hg
  generalize (fGet S p).isSome = z at *
  generalize (fGet S p).getD [] = y at *
  go_enter Try.func44, Try.ntmps44
  go_wp2
  go_ret
  exact ⟨rfl, rfl⟩
section
variable {ops : Array Oper} {rest : List Oper} {oper : Oper} {ac : Act} {Q : Exit → Act → World → Prop} {w : World} {b : Nat} {S : Fls}
/-- delete, at a map of files. -/
theorem wpList_fdel (hg : oper.guard = none) (m x : Operand) (t k : TypeId) (hop : oper.op = Op.call { callee := Callee.builtin Builtin.delete, args := #[m, x], argTypes := #[t, k] }) (ht : t = 50) (hk : k = 9)
    (p : Byts) (hm : ac.eval m = .map (some b)) (hx : ac.eval x = tv p) (h : Files w b S)
    (hK : ∀ w', Files w' b (fDel S p) → Turns (fun k => k = b) w w' → w'.heap.size = w.heap.size → wpList Try.prog ops Q rest (ac.put oper.dst (.tuple #[])) w') : wpList Try.prog ops Q (oper :: rest) ac w := by
  subst ht hk
  refine wpList_plain hg fun K' hK' => ?_
  obtain ⟨w', hrun, r1, r2, r3⟩ := h.del (P := Try.prog) Try.underlying50 Try.underlying9 p oper.type 9
  unfold Oper.wp
  simp [execOp, hop, resolve, invoke, builtin, hm, hx, hrun, Result.andThen]
  exact hK' _ _ (hK w' r1 (Turns.of_by r2 fun g hg _ => by cases hg; rfl) r3)
/-- m[k] = v, at a map of files. -/
theorem wpList_fput (hg : oper.guard = none) (m x y : Operand) (t : TypeId) (hop : oper.op = Op.mapUpdate t m x y) (ht : t = 50)
    (p v : Byts) (hm : ac.eval m = .map (some b)) (hx : ac.eval x = tv p) (hy : ac.eval y = tv v) (h : Files w b S)
    (hK : ∀ w', Files w' b (fPut S p v) → Turns (fun k => k = b) w w' → w'.heap.size = w.heap.size → wpList Try.prog ops Q rest (ac.put oper.dst undef) w') : wpList Try.prog ops Q (oper :: rest) ac w := by
  subst ht
  refine wpList_plain hg fun K' hK' => ?_
  obtain ⟨w', hrun, r1, r2, r3⟩ := h.put (P := Try.prog) Try.underlying50 Try.underlying9 p v
  unfold Oper.wp
  simp [execOp, hop, hm, hx, hy, hrun, Result.andThen]
  exact hK' _ _ (hK w' r1 (Turns.of_by r2 fun g hg _ => by cases hg; rfl) r3)
end
theorem del_del (S : Fls) (p : Byts) : fDel (fDel S p) p = fDel S p := fDel_none (get_del_same S p)
theorem put_del_perm (S : Fls) (p d : Byts) : (fPut (fDel S p) p d).Perm (fPut S p d) := (fPut_perm _).trans (by rw [del_del]; exact (fPut_perm S).symm)
theorem set_set1 {α : Type} (l : List α) (k : Nat) (x y : α) : (l.set k x).set k y = l.set k y := by simp
theorem FAt.store {w w2 : World} {a o b : Nat} {S S' : Fls} {vs : List Value} (h : FAt w a o b S vs) (hf : Files w b S') : FAt (w.setCell ⟨a, o + 1, none⟩ (.int .i64 (fUsed S' : Int))) a o b S' (vs.set (o + 1) (.int .i64 (fUsed S' : Int))) := by
  have hb := h.below
  refine ⟨h.has.set_ hb _, ?_, ?_, hf.turned (Turns.of_set (S := fun k => k = a) w _ rfl) (fun e => h.ne e.symm), h.ne⟩
  · rw [List.getElem?_set_ne (by omega)]; exact h.map
  · rw [List.getElem?_set_self hb]
set_option maxHeartbeats 1000000 in
theorem fdrop_any (h : FAt w a o b S vs) (hu : fUsed S ≤ 1000000000) : Calls Try.prog 49 #[.pointer (some ⟨a, o, none⟩), tv p] w fun e w' => e = .returned (.tuple #[]) ∧ FAt w' a o b (fDel S p) (vs.set (o + 1) (.int .i64 (fUsed (fDel S p) : Int))) ∧ Turns (AB a b) w w' := by
  have hb := h.below
  have hue := used_del h.files.nodup p
  have c0 : ∀ u, Grows w.drew u → u.cell? ⟨a, o, none⟩ = some (.map (some b)) := fun u hu => (h.has.later (Grows.trans (Grows.refl w).drew hu)).cell h.map
  have c1 : ∀ u, Grows w.drew u → u.cell? ⟨a, o + 1, none⟩ = some (.int .i64 (fUsed S : Int)) := fun u hu => (h.has.later (Grows.trans (Grows.refl w).drew hu)).cell h.used
  have hg : ∀ u, Grows w.drew u → (Instr.lookup 50 (.map (some b)) (tv p) false).run Try.prog u = .ok (tv ((fGet S p).getD [])) u := fun u hu => by
    have := get_any b S p u (h.files.later (Grows.trans (Grows.refl w).drew hu)) false
    simpa using this
  have hsz := size_mk ((fGet S p).getD [])
  have hW : IntKind.i64.wrap ((fUsed S : Int) - (((fGet S p).getD []).length : Int)) = (fUsed (fDel S p) : Int) := by
    rw [IntWalk.i64_in _ (by omega)]; omega
  clear hue hu
  generalize (fGet S p).getD [] = y at *
  go_enter Try.func49, Try.ntmps49
  go_wp2_with fail
  refine wp_region_ord 14 [(0, true), (1, true), (2, true), (3, true), (4, true), (5, true), (6, true), (7, true), (8, true), (9, true), (10, true), (11, true), (12, true), (13, true)] (by kernel_rfl) (by kernel_rfl) ?_
  have hO := Grows.refl w.drew
  have hgd := (Grows.refl w).drew
  generalize hwd : w.drew = wd at *
  clear hwd
  repeat (first | (refine ord_take hO _ ?_ (by simp only [List.getElem?_cons_succ, List.getElem?_cons_zero]; rfl) (by rfl) ?_ ?_; rotate_left; (· (intro u hu0 hu; (try go_simp); (try with_reducible rfl))); try simp only [Act.put, List.setIfInBounds_toArray, List.set_cons_zero, List.set_cons_succ]) | (refine ord_skip _ (by simp only [List.getElem?_cons_succ, List.getElem?_cons_zero]; rfl) (by rfl) ?_; try simp only [Act.put, List.setIfInBounds_toArray, List.set_cons_zero, List.set_cons_succ]))
  (refine ord_done (fun u hu => ?_); simp only [List.drop_succ_cons, List.drop_zero])
  have h1 := h.later (Grows.trans hgd hu)
  have f1 := h1.has.free (o + 1)
  have g1 := c1 u hu
  have c0' := (h1.has.set_ hb (.int .i64 (fUsed (fDel S p) : Int))).cell (k := o) (by rw [List.getElem?_set_ne (by omega)]; exact h.map)
  have hF' := h1.files.turned (Turns.of_set (S := fun k => k = a) (b := a) (o := o + 1) u (.int .i64 (fUsed (fDel S p) : Int)) rfl) (fun e => h.ne e.symm)
  clear hsz hW
  go_wp2_with fail
  refine NoPanic.normal ?_
  go_wp2_with (at_delete; refine wpList_fdel rfl _ _ _ _ rfl rfl rfl p rfl rfl hF' ?_; intro w3 hf3 ht3 hs3)
  go_end0
  refine ⟨rfl, ⟨?_, ?_, ?_, hf3, h.ne⟩, ?_⟩
  · exact (h1.has.set_ hb _).turned ht3 h.ne
  · rw [List.getElem?_set_ne (by omega)]; exact h.map
  · rw [List.getElem?_set_self hb]
  · exact (Turns.of_grows (Grows.trans hgd hu)).trans ((Turns.of_set (S := AB a b) u _ (.inl rfl)).trans (ht3.mono fun k _ e => .inr e))
set_option maxHeartbeats 1000000 in
theorem fput_any (d : Byts) (h : FAt w a o b S vs) (hu : fUsed S + d.length ≤ 1000000000) : Calls Try.prog 48 #[.pointer (some ⟨a, o, none⟩), tv p, tv d] w fun e w' => e = .returned (.tuple #[]) ∧ FAt w' a o b (fPut S p d) (vs.set (o + 1) (.int .i64 (fUsed (fPut S p d) : Int))) ∧ Turns (AB a b) w w' := by
  have hb := h.below
  have hue := used_del h.files.nodup p
  have hup := used_put h.files.nodup p d
  have hsz := size_mk d
  have hW : wrap64 ((fUsed (fDel S p) : Int) + (d.length : Int)) = (fUsed (fPut S p d) : Int) := by
    unfold wrap64; omega
  have hD := fdrop_any a o b S vs p w h (by omega)
  clear hue hup hu
  go_enter Try.func48, Try.ntmps48
  go_wp2_with fail
  refine hD.mono ?_
  rintro e w1 ⟨rfl, h1, t1⟩
  have c0 := h1.has.cell h1.map
  go_wp2_with (at_mapUpdate; refine wpList_fput rfl _ _ _ _ rfl rfl p d rfl rfl rfl h1.files ?_; intro w2 hf2 ht2 hs2; have b2 := h1.has.turned ht2 h1.ne; have c1 := b2.cell h1.used; have f1 := b2.free (o + 1); clear hs2)
  go_end0
  refine ⟨rfl, ⟨?_, ?_, ?_, (hf2.perm (put_del_perm S p d)).turned (Turns.of_set (S := fun k => k = a) w2 _ rfl) (fun e => h.ne e.symm), h.ne⟩, ?_⟩
  · have := b2.set_ (k := o + 1) (by simpa using hb) (.int .i64 (fUsed (fPut S p d) : Int))
    rwa [set_set1] at this
  · rw [List.getElem?_set_ne (by omega)]; exact h.map
  · rw [List.getElem?_set_self hb]
  · exact t1.trans ((ht2.mono fun k _ e => .inr e).trans (Turns.of_set (S := AB a b) w2 _ (.inl rfl)))
set_option maxHeartbeats 1000000 in
theorem fcopied_any (h : FAt w a o b S vs) : Calls Try.prog 37 #[.pointer (some ⟨a, o, none⟩)] w fun e w' => ∃ b', e = .returned (.agg #[.map (some b'), .int .i64 (fUsed S : Int)]) ∧ w.heap.size ≤ b' ∧ Files w' b' S ∧ Grows w w' := by
  have hbox := Has.new w 52 [.map none, .int .i64 0]
  have hga := grows_alloc w (.cells #[.map none, .int .i64 0] 52)
  go_enter Try.func37, Try.ntmps37
  go_wp2_with fail
  change Code.wp _ _ _ _ (w.alloc (.cells [Value.map none, Value.int IntKind.i64 0].toArray 52))
  have hB := hga.size
  generalize hw1 : w.alloc (.cells [Value.map none, Value.int IntKind.i64 0].toArray 52) = w1 at *
  have hga : Grows w w1 := by rw [← hw1]; exact grows_alloc _ _
  generalize hBe : w.heap.size = B at *
  have hBw := Lib.hid (Nat.le_of_eq hBe)
  clear hBe
  clear hw1
  have h1 := h.later hga
  have c0 : ∀ u, Grows w1.drew u → u.cell? ⟨a, o, none⟩ = some (.map (some b)) := fun u hu => (h1.has.later (Grows.trans (Grows.refl w1).drew hu)).cell h.map
  have c1 : ∀ u, Grows w1.drew u → u.cell? ⟨a, o + 1, none⟩ = some (.int .i64 (fUsed S : Int)) := fun u hu => (h1.has.later (Grows.trans (Grows.refl w1).drew hu)).cell h.used
  refine wp_region_ord 10 [(0, true), (1, true), (2, true), (3, true), (5, true), (6, true), (7, true), (8, true), (4, false), (9, true)] (by kernel_rfl) (by kernel_rfl) ?_
  have hO := Grows.refl w1.drew
  have hgd := (Grows.refl w1).drew
  generalize hwd : w1.drew = wd at *
  clear hwd
  repeat (first | (refine ord_take hO _ ?_ (by simp only [List.getElem?_cons_succ, List.getElem?_cons_zero]; rfl) (by rfl) ?_ ?_; rotate_left; (· (intro u hu0 hu; (try go_simp); (try with_reducible rfl))); try simp only [Act.put, List.setIfInBounds_toArray, List.set_cons_zero, List.set_cons_succ]) | (refine ord_skip _ (by simp only [List.getElem?_cons_succ, List.getElem?_cons_zero]; rfl) (by rfl) ?_; try simp only [Act.put, List.setIfInBounds_toArray, List.set_cons_zero, List.set_cons_succ]))
  (refine ord_move _ (by simp only [List.getElem?_cons_succ, List.getElem?_cons_zero]; rfl) (by rfl) (fun u hu K hK => ?_); go_simp)
  refine (mclone_any b S u (h1.files.later (Grows.trans hgd hu))).mono ?_
  rintro e w2 ⟨rfl, hf2, hg2⟩
  refine hK.out _ _ hg2 ?_
  clear hK K hO
  have hbb := hbox.later (Grows.trans hgd (Grows.trans hu hg2))
  have hge := Nat.le_trans hB (Nat.le_trans hgd.size hu.size)
  have hgw : Grows w w2 := Grows.trans hga (Grows.trans hgd (Grows.trans hu hg2))
  generalize u.heap.size = b' at *
  have hO := Grows.refl w2
  repeat (first | (refine ord_take hO _ ?_ (by simp only [List.getElem?_cons_succ, List.getElem?_cons_zero]; rfl) (by rfl) ?_ ?_; rotate_left; (· (intro u hu0 hu; (try go_simp); (try with_reducible rfl))); try simp only [Act.put, List.setIfInBounds_toArray, List.set_cons_zero, List.set_cons_succ]) | (refine ord_skip _ (by simp only [List.getElem?_cons_succ, List.getElem?_cons_zero]; rfl) (by rfl) ?_; try simp only [Act.put, List.setIfInBounds_toArray, List.set_cons_zero, List.set_cons_succ]))
  refine ord_done (fun w3 hu3 => ?_); simp only [List.drop_succ_cons, List.drop_zero]
  have hb3 := hbb.later hu3
  have hne : B ≠ b' := by
    intro e
    subst e
    obtain ⟨es, clock, l, hb, _⟩ := hf2
    obtain ⟨v, hv⟩ : ∃ v, w2.cell? ⟨B, 0, none⟩ = some v := ⟨_, hbb.cell (k := 0) rfl⟩
    simp [World.cell?, hb] at hv
  have hf3 := hf2.later hu3
  have hgw3 : Grows w w3 := Grows.trans hgw hu3
  clear hu hgd hgw
  go_wp2_with (refine wpList_storeT rfl 52 (.tmp 2) (.tmp 12) rfl B [.map none, .int .i64 0] [.map (some b'), .int .i64 (fUsed S : Int)] 2 rfl rfl hb3 rfl rfl (by kernel_rfl) (by intro v hv; simp at hv; rcases hv with rfl | rfl <;> rfl) ?_; intro w4 hb4 ht4)
  refine NoPanic.normal ?_
  go_wp2_with fail
  refine bodyPost_ret (res_has (vs := [.map (some b'), .int .i64 (fUsed S : Int)]) rfl _ rfl Try.underlying52 rfl (by kernel_rfl) hb4) rfl ?_
  exact ⟨b', rfl, Nat.le_trans hBw.out hge, hf3.turned ht4 (fun e => hne e.symm), turns_grow hgw3 ht4 hBw.out⟩
end

theorem always_any (w : World) : Calls Try.prog 34 #[] w fun e w' => e = .returned (.bool true) ∧ w' = w := by
  go_enter Try.func34, Try.ntmps34
  go_wp2
  go_ret
  exact ⟨rfl, rfl⟩
theorem mayname_any (p : Byts) (w : World) : Calls Try.prog 43 #[tv p] w fun e w' => e = .returned (.bool (namedB p)) ∧ w' = w := by
  have e1 : ∀ t, binOp .neq t (tv p) (.string ⟨#[]⟩) = (pure (.bool !(p == [])) : Sem Value) := fun t => run_tne (P := Try.prog) t p []
  have hsz := size_mk p
  have hix := zero_all p
  unfold namedB
  rw [← hix]
  clear hix
  have hC := ixb0_any p
  have hd : decide (p.length < 97) = decide ((p.length : Int) ≤ 96) := by rw [Bool.eq_iff_iff]; simp; omega
  have hp : decide (0 < p.length) = !(p == []) := by cases p <;> simp
  rw [hd, hp]
  clear hd hp
  generalize Lib.indexByte p 0 = z at *
  cases b1 : (p == [])
  · rw [b1] at e1
    cases b2 : decide ((p.length : Int) ≤ 96)
    · clear b1
      go_enter Try.func43, Try.ntmps43
      go_wp2
      go_ret
      exact ⟨rfl, rfl⟩
    · clear b1
      go_enter Try.func43, Try.ntmps43
      go_wp2_with fail
      refine (hC _).mono ?_
      rintro e w' ⟨rfl, rfl⟩
      go_wp2
      go_ret
      exact ⟨rfl, rfl⟩
  · rw [b1] at e1
    clear b1
    go_enter Try.func43, Try.ntmps43
    go_wp2
    go_ret
    exact ⟨rfl, rfl⟩
theorem nofiles_any (w : World) : Calls Try.prog 18 #[] w fun e w' => ∃ b', e = .returned (.agg #[.map (some b'), .int .i64 0]) ∧ w.heap.size ≤ b' ∧ Files w' b' [] ∧ Grows w w' := by
  have hmm := @run_makeMap Try.prog
  go_enter Try.func18, Try.ntmps18
  go_wp2_with fail
  have hbox := (Has.new w 52 [.map (some (w.heap.size + 1)), .int .i64 0])
  have hsz : (w.alloc (.cells [Value.map (some (w.heap.size + 1)), Value.int IntKind.i64 0].toArray 52)).heap.size = w.heap.size + 1 := by simp
  have hf := Files.new (w.alloc (.cells [Value.map (some (w.heap.size + 1)), Value.int IntKind.i64 0].toArray 52))
  rw [hsz] at hf
  refine bodyPost_ret (res_has (vs := [.map (some (w.heap.size + 1)), .int .i64 0]) rfl _ rfl Try.underlying52 rfl (by kernel_rfl) (hbox.later (grows_alloc _ _))) rfl ?_
  exact ⟨_, rfl, Nat.le_succ _, hf, Grows.trans (grows_alloc _ _) (grows_alloc _ _)⟩
end Go.Proofs.Ytbcldknecdbemaa
