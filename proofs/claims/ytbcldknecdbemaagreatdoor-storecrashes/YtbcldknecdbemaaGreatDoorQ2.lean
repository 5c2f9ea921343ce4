/-
  Contracts, joined (Cel Mak Cut).
-/
import Derived.Test.YtbcldknecdbemaaGreatDoorQ1
import Derived.Laws.CopyOwn
import Derived.Deep.OwnRows

/-
  Words for variables of any cells (of no program): a block whose cells are known and may be written; parts of it loaded and stored whole; results that lie in memory.
-/
namespace Go.Proofs.YtbcldknecdbemaaGreatDoor
open Go.RowKit
set_option linter.unusedVariables false
set_option maxRecDepth 20000

/-- A word of 32 bits as a value. -/
abbrev uv (n : Nat) : Value := .int .u32 (n : Int)
theorem uv_one (l : List Nat) : ∀ u ∈ l.map uv, u.oneCell' = true := fun u hu => by
  obtain ⟨b, _, rfl⟩ := List.mem_map.1 hu
  rfl

/-- The variable in block b begins with the cells vs, and may be written. -/
structure Has (w : World) (b : Nat) (vs : List Value) : Prop where
  lt : b < w.heap.size
  cells : w.rangeAt b 0 vs
  free : ∀ j, w.frozen? ⟨b, j, none⟩ = false

section
variable {w w' : World} {b o : Nat} {vs cs : List Value}
theorem range_later (h : w.rangeAt b o cs) (hg : Grows w w') : w'.rangeAt b o cs := fun j v hv => hcell_later (h j v hv) hg
theorem range_below {B : Nat} (h : w.rangeAt b o cs) (hg : Below B w w') (hB : b < B) : w'.rangeAt b o cs := fun j v hv => (hg.cell (p := ⟨b, o + j, none⟩) hB).trans (h j v hv)
theorem range_cell (h : w.rangeAt b o cs) {k : Nat} {u : Value} (hu : cs[k]? = some u) : w.cell? ⟨b, o + k, none⟩ = some u := h k u hu
theorem Has.new (w : World) (t : TypeId) (vs : List Value) : Has (w.alloc (.cells vs.toArray t)) w.heap.size vs :=
  ⟨by simp, fun j u hu => by rw [cell_of_row _ _ _ _ t (0, 0) (heap_alloc_new w _)]; simpa using hu, fun j => frozen_of_row _ _ j _ t (heap_alloc_new w _)⟩
theorem Has.below {B : Nat} (h : Has w b vs) (hb : Below B w w') (hB : b < B) : Has w' b vs :=
  ⟨Nat.lt_of_lt_of_le h.lt hb.size, range_below h.cells hb hB, fun j => (hb.frozen (p := ⟨b, j, none⟩) hB).trans (h.free j)⟩
theorem Has.later (h : Has w b vs) (hb : Grows w w') : Has w' b vs := h.below hb h.lt
theorem Has.drew (h : Has w b vs) : Has w.drew b vs := ⟨h.lt, h.cells, h.free⟩
theorem Has.cell (h : Has w b vs) {k : Nat} {u : Value} (hu : vs[k]? = some u) : w.cell? ⟨b, k, none⟩ = some u := by have := h.cells k u hu; rwa [Nat.zero_add] at this
theorem Has.part (h : Has w b vs) (o : Nat) (hp : ∀ j u, cs[j]? = some u → vs[o + j]? = some u) : w.rangeAt b o cs := fun j u hu => h.cell (hp j u hu)
theorem there_of (h : w.rangeAt b o cs) (hf : ∀ j, w.frozen? ⟨b, j, none⟩ = false) : w.there b o cs.length := fun j hj => ⟨h.isSome j hj, hf _⟩
theorem Has.there (h : Has w b vs) : w.there b 0 vs.length := there_of h.cells h.free

theorem size_setCells (b : Nat) : ∀ (vs : List Value) (o : Nat) (w : World), (w.setCells b o vs).heap.size = w.heap.size
  | [], _, _ => rfl
  | v :: r, o, w => by rw [World.setCells, size_setCells b r]; simp [World.setCell]
theorem Has.lies (h : Has w b vs) : Lies w w.heap.size (some ⟨b, 0, none⟩) vs := fun j u hu => ⟨_, rfl, h.lt, by rw [add_plain, Nat.zero_add]; exact h.cell hu⟩
theorem range_lies (h : w.rangeAt b 0 vs) : Lies w w.heap.size (some ⟨b, 0, none⟩) vs := fun j u hu => ⟨_, rfl, World.block_lt_of_cell? w ⟨b, 0 + j, none⟩ (h j u hu), by rw [add_plain]; exact h j u hu⟩
/-- One cell is stored. -/
theorem Has.set_ (h : Has w b vs) {k : Nat} (hk : k < vs.length) (x : Value) : Has (w.setCell ⟨b, k, none⟩ x) b (vs.set k x) := by
  have hL : Lies w w.heap.size (some ⟨b, 0, none⟩) vs := fun j u hu => ⟨_, rfl, h.lt, by rw [add_plain, Nat.zero_add]; exact h.cell hu⟩
  have hs := hL.set_ (k := k) (u := x) hk
  refine ⟨by simpa [World.setCell] using h.lt, fun j u hu => ?_, fun j => by simpa using h.free j⟩
  obtain ⟨ad, e, _, hc⟩ := hs j u hu
  injection e with e
  subst e
  rwa [add_plain] at hc
/-- It is stored whole. -/
theorem Has.put_ (h : Has w b vs) {vs' : List Value} (hl : vs'.length = vs.length) : Has (w.setCells b 0 vs') b vs' :=
  ⟨by rw [size_setCells]; exact h.lt, World.rangeAt_setCells_same w b 0 vs' (by rw [hl]; exact h.there), fun j => by rw [World.frozen?_setCells]; exact h.free j⟩
theorem range_load {P : Program} {t : TypeId} {d : TypeDesc} (h : w.rangeAt b o cs) (ht : P.underlying t = some d) (hd : d.isRow = true) (hi : (P.info? t).map (·.size) = some cs.length) :
    (Instr.loadAt t (.pointer (some ⟨b, o, none⟩))).run P w = .ok (.agg cs.toArray) w := run_loadAt_mid w b o t cs d h ht hd hi
theorem Has.load {P : Program} {t : TypeId} {d : TypeDesc} (h : Has w b vs) (ht : P.underlying t = some d) (hd : d.isRow = true) (hi : (P.info? t).map (·.size) = some vs.length) :
    (Instr.loadAt t (.pointer (some ⟨b, 0, none⟩))).run P w = .ok (.agg vs.toArray) w := range_load h.cells ht hd hi

/-- A store of a whole row in place of another. -/
theorem wpList_storev {P : Program} {ops : Array Oper} {rest : List Oper} {op : Oper} {a : Act} {Q : Exit → Act → World → Prop} (hgd : op.guard = none) (ty : TypeId) (x y : Operand) (ho : op.op = .store ty x y)
    (b : Nat) (vs vs' : List Value) (n : Nat) (hx : a.eval x = .pointer (some ⟨b, 0, none⟩)) (hy : a.eval y = .agg vs'.toArray) (hb : Has w b vs) (hl : vs.length = n) (hl' : vs'.length = n) (hi : (P.info? ty).map (·.size) = some n)
    (h1 : ∀ v ∈ vs', v.oneCell' = true) (h : ∀ w', Has w' b vs' → (∀ B a0, B ≤ b → Below B a0 w → Below B a0 w') → wpList P ops Q rest (a.put op.dst undef) w') : wpList P ops Q (op :: rest) a w := by
  have hz : vs'.toArray.size = n := by simp [hl']
  refine wpList_store_mid hgd ty x y ho b 0 vs'.toArray hx hy (by rw [hz, ← hl]; exact hb.there) (by rw [hz]; exact hi) (all_oneCell_toArray h1) ?_
  exact h _ (hb.put_ (by rw [hl, hl'])) (fun B a0 hB hbl => below_cells b hB _ 0 w hbl)

theorem res_has {P : Program} {fn : Func} {p : Tmp} {t : TypeId} {d : TypeDesc} (h : fn.results = #[.cell p t]) (tmps : Array Value) (hp : tmps.getD p undef = .pointer (some ⟨b, 0, none⟩))
    (ht : P.underlying t = some d) (hd : d.isRow = true) (hi : (P.info? t).map (·.size) = some vs.length) (hb : Has w b vs) : (results fn tmps).run P w = .ok (.agg vs.toArray) w := by
  have hp' : tmps[p]?.getD undef = .pointer (some ⟨b, 0, none⟩) := by simpa using hp
  simp [results, h, hp', asAddr, run_loadVar_mid w b 0 t vs d hb.cells ht hd hi]

theorem own_later {base : Nat} {e : TypeId} {size : Nat} {v : Value} {n : Nat} {xs : List Value} (h : w.ownsRow base e size v n xs) (hg : Grows w w') : w'.ownsRow base e size v n xs := by
  refine ⟨h.1, h.2.imp id ?_⟩
  rintro ⟨g, cap, cur, hv, hb, hh, rest⟩
  refine ⟨g, cap, cur, hv, hb, ?_, rest⟩
  have hlt : g < w.heap.size := by
    rcases Nat.lt_or_ge g w.heap.size with hlt | hge
    · exact hlt
    · rw [Array.getElem?_eq_none hge] at hh; cases hh
  rw [hg.block g hlt]
  exact hh
theorem own_drawn {base : Nat} {e : TypeId} {size m : Nat} {v : Value} {n : Nat} {xs : List Value} (h : w.ownsRow base e size v n xs) : (w.drewN m).ownsRow base e size v n xs := h
theorem Has.drawn {m : Nat} (h : Has w b vs) : Has (w.drewN m) b vs := ⟨h.lt, h.cells, h.free⟩
theorem below_put {B : Nat} {a0 : World} (hB : B ≤ b) (h : Below B a0 w) (vs : List Value) (o : Nat) : Below B a0 (w.setCells b o vs) := below_cells b hB vs o w h
theorem grows_alloc (w : World) (ob : Obj) : Grows w (w.alloc ob) := (Grows.refl w).alloc (Nat.le_refl _) _
theorem mid_set {α : Type} (l z : List α) (k : Nat) (x : α) (hx : l[k]? = some x) (hz : k < z.length) : (l.take k ++ z.drop k).set k x = l.take (k + 1) ++ z.drop (k + 1) := by
  have hk : k < l.length := (List.getElem?_eq_some_iff.1 hx).1
  have e : x = l[k] := by rw [List.getElem?_eq_getElem hk] at hx; injection hx with hx; exact hx.symm
  rw [List.set_append_right _ _ (by simp; omega), List.length_take, Nat.min_eq_left (by omega), Nat.sub_self, List.drop_eq_getElem_cons hz, List.set_cons_zero,
    List.take_succ_eq_append_getElem hk, e, List.append_assoc]
  rfl
end
end Go.Proofs.YtbcldknecdbemaaGreatDoor

/-
  Laws for a walk (of no program): make with room, and copy into a row of the call's own, both in the words of an owned row.
-/
namespace Go.Proofs.YtbcldknecdbemaaGreatDoor
open Go.RowKit
set_option linter.unusedVariables false
set_option maxRecDepth 20000

theorem made_one (z : Value) (n : Nat) : madeCells #[z] n = (List.replicate n z).toArray := by
  apply Array.ext
  · simp [madeCells]
  · intro i h1 h2
    simp [madeCells, Nat.mod_one]

section
variable {P : Program}
theorem run_make_room (base : Nat) (t e : TypeId) (i : TypeInfo) (z : Value) (ht : P.underlying t = some (.slice e)) (hi : P.info? e = some i) (hz : i.zero = some z) (hsize : i.size = 1) (hz1 : z.cells = #[z])
    (kl kc : IntKind) (n c : Nat) (hnc : n ≤ c) (hbytes : i.bytes * c ≤ 281474976710656) (h63 : c ≤ maxLen) (w : World) (hbase : base ≤ w.heap.size) :
    ∃ w', (Instr.makeSlice t (.int kl (n : Int)) (.int kc (c : Int))).run P w = .ok (.slice (some ⟨w.heap.size, 0, none⟩) n c) w' ∧
      w'.ownsRow base e 1 (.slice (some ⟨w.heap.size, 0, none⟩) n c) n (List.replicate n z) ∧ Grows w w' ∧ w'.heap.size = w.heap.size + 1 := by
  have h63' : (c : Int) ≤ 9223372036854775807 := by
    have h := h63
    simp [maxLen] at h
    omega
  have hb' : (i.bytes : Int) * (c : Int) ≤ 281474976710656 := by
    have h : ((i.bytes * c : Nat) : Int) ≤ 281474976710656 := by omega
    rwa [Int.natCast_mul] at h
  have hr := run_make (P := P) w t e i z ht hi hz kl kc n c (by omega) (by omega) hb' h63'
  rw [hsize, hz1, Int.toNat_natCast, Int.toNat_natCast, Nat.mul_one, made_one] at hr
  refine ⟨_, hr, ⟨by simp, .inr ⟨w.heap.size, c, (List.replicate c z).toArray, rfl, hbase, heap_alloc_new w _, hnc, h63, by simp, ?_⟩⟩, grows_alloc _ _, by simp⟩
  simp [List.take_replicate, Nat.min_eq_left hnc]

theorem wpList_make_room (w : World) {ops : Array Oper} {rest : List Oper} {o : Oper} {a : Act} {Q : Exit → Act → World → Prop} (hg : o.guard = none) (l c : Operand) (t : TypeId) (hop : o.op = Op.makeSlice t l c)
    (base : Nat) (e : TypeId) (i : TypeInfo) (z : Value) (ht : P.underlying t = some (.slice e)) (hi : P.info? e = some i) (hz : i.zero = some z) (hsize : i.size = 1) (hz1 : z.cells = #[z])
    (kl kc : IntKind) (x y : Int) (n m : Nat) (hl : a.eval l = .int kl x) (hc : a.eval c = .int kc y) (hx : x = (n : Int)) (hy : y = (m : Int)) (hnm : n ≤ m) (hbytes : i.bytes * m ≤ 281474976710656) (h63 : m ≤ maxLen) (hbase : base ≤ w.heap.size)
    (hK : ∀ w', w'.ownsRow base e 1 (.slice (some ⟨w.heap.size, 0, none⟩) n m) n (List.replicate n z) → Grows w w' → w'.heap.size = w.heap.size + 1 → wpList P ops Q rest (a.put o.dst (.slice (some ⟨w.heap.size, 0, none⟩) n m)) w') :
    wpList P ops Q (o :: rest) a w := by
  subst hx hy
  refine wpList_plain hg fun K hK' => ?_
  obtain ⟨w', hrun, h1, h2, h3⟩ := run_make_room (P := P) base t e i z ht hi hz hsize hz1 kl kc n m hnm hbytes h63 w hbase
  unfold Oper.wp
  simp [execOp, hop, hl, hc, hrun, Result.andThen]
  exact hK' _ _ (hK w' h1 h2 h3)

/-- copy(owned, source): what goes over. -/
theorem wpList_copy_row {w : World} {ops : Array Oper} {rest : List Oper} {o : Oper} {a : Act} {Q : Exit → Act → World → Prop} (hgd : o.guard = none) (d s : Operand) (dT sT : TypeId)
    (ho : o.op = .call { callee := .builtin .copy, args := #[d, s], argTypes := #[dT, sT] }) (e : TypeId) (hu : P.underlying dT = some (.slice e)) (hsz : (P.info? e).map (·.size) = some 1)
    (base : Nat) (v : Value) (n : Nat) (xs : List Value) (hd : a.eval d = v) (hown : w.ownsRow base e 1 v n xs)
    (B : Nat) (A : Option Addr) (m c : Nat) (news : List Value) (hs : a.eval s = .slice A m c) (hl : news.length = m) (hr : Lies w B A news) (h1 : ∀ u ∈ news, u.oneCell' = true) (w0 : World) (hb : Below base w0 w)
    (h : ∀ w', w'.ownsRow base e 1 v n (news.take n ++ xs.drop m) → Below base w0 w' → w'.heap.size = w.heap.size → wpList P ops Q rest (a.put o.dst (goInt ((min m n : Nat) : Int))) w') :
    wpList P ops Q (o :: rest) a w := by
  have hxl : xs.length = n := by have := hown.1; omega
  by_cases h0 : min m n = 0
  · obtain ⟨A', c', rfl, _⟩ := own_form hown
    refine wpList_copy_nothing hgd d s dT sT ho e hu hsz A' A n c' m c hd hs h0 ?_
    rw [h0] at h
    refine h w ?_ hb rfl
    have he : news.take n ++ xs.drop m = xs := by
      rcases Nat.min_eq_zero_iff.1 h0 with rfl | rfl
      · rw [List.eq_nil_of_length_eq_zero hl]; simp
      · rw [List.eq_nil_of_length_eq_zero hxl]; simp
    rw [he]
    exact hown
  · rcases hown.2 with ⟨_, rfl⟩ | ⟨g, cap, cur, rfl, hbg, hh, hnc, hm, hcs, htk⟩
    · simp at h0
    · obtain ⟨ad, rfl, _, _⟩ := hr 0 (news[0]'(by omega)) (List.getElem?_eq_getElem _)
      have hlen : (news.take n).length = min m n := by rw [List.length_take, hl, Nat.min_comm]
      have hfit : (news.take n).length ≤ cur.size := by rw [hlen]; omega
      refine wpList_copy_own hgd d s dT sT ho e hu hsz g 0 n cap ad m c hd hs cur e hh (news.take n) hlen (hr.take n).cells (by omega) (fun u hu => h1 u (List.mem_of_mem_take hu)) ?_
      rw [hlen]
      refine h _ ⟨by simp [hl, hxl]; omega, .inr ⟨g, cap, _, rfl, hbg, setRow_heap w g _ _ e _ hh, hnc, hm, ?_, ?_⟩⟩ (below_setRow hb hbg _) (by simp [World.setRow])
      · simp [hl]; omega
      · rw [Nat.mul_one] at htk ⊢
        simp only [List.take_zero, List.nil_append, Nat.zero_add]
        rw [List.take_append, List.take_of_length_le (by rw [hlen]; omega), hlen, ← htk, List.drop_take]
        congr 1
        by_cases hmn : m ≤ n
        · rw [Nat.min_eq_left hmn]
        · rw [Nat.min_eq_right (by omega), Nat.sub_self, show n - m = 0 by omega, List.take_zero, List.take_zero]
end

/-- A row of the call's own that is not empty: where it lies, and that it may be written. -/
theorem own_has {w : World} {base : Nat} {e : TypeId} {v : Value} {n : Nat} {vs : List Value} (h : w.ownsRow base e 1 v n vs) (hn : 0 < n) : ∃ g c, v = .slice (some ⟨g, 0, none⟩) n c ∧ n ≤ c ∧ c ≤ maxLen ∧ base ≤ g ∧ Has w g vs := by
  have h0 := h
  rcases h.2 with ⟨_, h'⟩ | ⟨g, cap, cur, rfl, hb, hg, hnc, hm, _⟩
  · omega
  · refine ⟨g, cap, rfl, hnc, hm, hb, ?_, fun j u hu => ?_, fun j => frozen_of_row w g j cur e hg⟩
    · rcases Nat.lt_or_ge g w.heap.size with hlt | hge
      · exact hlt
      · rw [Array.getElem?_eq_none hge] at hg; cases hg
    · obtain ⟨ad, e, _, hc⟩ := Lies.of_own h0 j u hu
      injection e with e
      subst e
      rwa [add_plain] at hc
end Go.Proofs.YtbcldknecdbemaaGreatDoor

/-
  Cuts of a slice whose elements have one cell (of no program): b[:m], b[m:], b[l:h], and what lies there.
-/
namespace Go.Proofs.YtbcldknecdbemaaGreatDoor
open Go.RowKit
set_option linter.unusedVariables false
set_option maxRecDepth 20000
set_option linter.unusedSectionVars false

theorem add_zero_addr (a : Addr) : a.add 0 = a := by simp [Addr.add]
theorem add_add_addr (a : Addr) (i j : Nat) : (a.add i).add j = a.add (i + j) := by
  by_cases hi : i = 0 <;> by_cases hj : j = 0 <;> simp [Addr.add, hi, hj, Nat.add_assoc]
theorem map_add_zero (A : Option Addr) : A.map (·.add 0) = A := by cases A <;> simp [add_zero_addr]

theorem Lies.from_ {w : World} {B : Nat} {A : Option Addr} {vs : List Value} (h : Lies w B A vs) (m : Nat) : Lies w B (A.map (·.add m)) (vs.drop m) := fun j u hu => by
  rw [List.getElem?_drop] at hu
  obtain ⟨ad, rfl, hb, hc⟩ := h (m + j) u hu
  exact ⟨ad.add m, rfl, by rw [add_block]; exact hb, by rw [add_add_addr]; exact hc⟩

section
variable {P : Program} {t e : TypeId} (ht : P.underlying t = some (.slice e)) (hs : (P.info? e).map (·.size) = some 1) (A : Option Addr) (n c m : Nat) (k : IntKind)
include ht hs
theorem elem_of : P.elem t = e := by unfold Program.elem; simp [ht]
theorem size_of_elem (u : World) : (sizeOf (P.elem t)).run P u = .ok 1 u := by
  obtain ⟨i, hi, h1⟩ := Option.map_eq_some_iff.1 hs
  rw [elem_of ht hs]
  simp [sizeOf, typeInfo, hi, h1]
theorem run_cut_to (h : m ≤ c) (u : World) : (Instr.sliceAt t (.slice A n c) none (some (.int k (m : Int))) none).run P u = .ok (.slice A m c) u := by
  have ht' : P.underlying t = some (.slice (P.elem t)) := by rw [elem_of ht hs]; exact ht
  rw [run_sliceAt_slice u t _ _ _ _ ht', run_slice_h u t A n c ht' k m (by omega) (by omega), size_of_elem ht hs]
  simp [Result.andThen, sliced, map_add_zero]
theorem run_cut_from (h : m ≤ n) (hc : m < c) (u : World) : (Instr.sliceAt t (.slice A n c) (some (.int k (m : Int))) none none).run P u = .ok (.slice (A.map (·.add m)) (n - m) (c - m)) u := by
  have ht' : P.underlying t = some (.slice (P.elem t)) := by rw [elem_of ht hs]; exact ht
  rw [run_sliceAt_slice u t _ _ _ _ ht', run_slice_l u t A n c ht' k m (by omega) (by omega), size_of_elem ht hs]
  simp [Result.andThen, sliced, show ¬ c = m by omega]
end

/-- A cut, as one operation of a region that draws its order. -/
theorem exec_slice {P : Program} {o : Oper} {a : Act} {u : World} {t : TypeId} {x : Operand} {lo hi mx : Option Operand} {v : Value} (ho : o.op = .slice t x lo hi mx)
    (h : (Instr.sliceAt t (a.eval x) (lo.map a.eval) (hi.map a.eval) (mx.map a.eval)).run P u = .ok v u) : (execOp a.eval o).run P u = .ok (.value v) u := by
  unfold execOp
  simp only [ho, Sem.run_bind, h, Result.andThen_ok, Sem.run_pure]
theorem ord_cut {P : Program} {Q : Exit → Act → World → Prop} {l : List Oper} {E : Act → World → Prop} {w0 w : World} {i : Nat} {s : List (Nat × Bool)} {a : Act} (h0 : Grows w0 w) (o : Oper) (v : Value) (ho : l[i]? = some o)
    (hw : Region.wanted o (yielded l.toArray a.tmps) = true) (t : TypeId) (x : Operand) (lo hi mx : Option Operand) (hop : o.op = .slice t x lo hi mx)
    (hy : ∀ u, (Instr.sliceAt t (a.eval x) (lo.map a.eval) (hi.map a.eval) (mx.map a.eval)).run P u = .ok v u)
    (h : wpOrd P l.toArray Q E s (a.put o.dst v) w) : wpOrd P l.toArray Q E ((i, true) :: s) a w :=
  ord_take h0 o v ho hw (fun u hu _ => exec_slice hop (hy u)) h
theorem wpList_cut {P : Program} {w : World} {ops : Array Oper} {rest : List Oper} {o : Oper} {a : Act} {Q : Exit → Act → World → Prop} (hgd : o.guard = none) (t : TypeId) (x : Operand) (lo hi mx : Option Operand) (hop : o.op = .slice t x lo hi mx)
    (v : Value) (hy : (Instr.sliceAt t (a.eval x) (lo.map a.eval) (hi.map a.eval) (mx.map a.eval)).run P w = .ok v w) (h : wpList P ops Q rest (a.put o.dst v) w) : wpList P ops Q (o :: rest) a w := by
  refine wpList_plain hgd fun K hK => ?_
  unfold Oper.wp
  rw [exec_slice hop hy]
  exact hK _ _ h
end Go.Proofs.YtbcldknecdbemaaGreatDoor
