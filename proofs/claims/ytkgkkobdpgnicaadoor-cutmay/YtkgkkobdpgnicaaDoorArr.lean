/-
  Words for arrays of bytes (of no program): compared by ==; opened as an argument; loads of whole variables.
-/
import Derived.Test.YtkgkkobdpgnicaaDoorSched
import Derived.Deep.MidRow
import Derived.Laws.ResultCell
import Derived.ChangeKeysEq
import Derived.ProofKit
import Derived.OpenShut
namespace Go.Proofs.YtkgkkobdpgnicaaDoor
open Go.RowKit
set_option linter.unusedVariables false

/-- An array of bytes as a value. -/
abbrev dv (l : List UInt8) : Value := .agg (l.map bv).toArray

section
variable {P : Program} (w : World)

theorem run_part_byte {e : TypeId} (he : P.underlying e = some (.int .u8)) (l : List UInt8) (i : Nat) (hi : i < l.length) : (part e (l.map bv).toArray i).run P w = .ok (bv l[i]) w := by
  simp [part, isAgg, run_underlying he, hi]

theorem run_items_bytes (d : Nat) {e : TypeId} (he : P.underlying e = some (.int .u8)) (la lb : List UInt8) : ∀ (is : List Nat), (∀ i ∈ is, i < la.length ∧ i < lb.length) →
    (Op.eqItems (d + 1) e 1 (la.map bv).toArray (lb.map bv).toArray is).run P w = .ok (is.all fun i => la[i]? == lb[i]?) w
  | [], _ => by simp [Op.eqItems]
  | i :: is, h => by
    obtain ⟨h1, h2⟩ := h i (by simp)
    have ih := run_items_bytes d he la lb is (fun j hj => h j (by simp [hj]))
    simp only [Op.eqItems, Sem.run_bind, Nat.mul_one, run_part_byte w he la i h1, run_part_byte w he lb i h2, Result.andThen_ok, run_equalIn_int w d e .u8 .u8 _ _ he]
    by_cases hq : la[i] = lb[i]
    · simp [hq, ih, List.getElem?_eq_getElem h1, List.getElem?_eq_getElem h2]
    · have hn : ¬ ((la[i].toNat : Int) = (lb[i].toNat : Int)) := fun e => hq (UInt8.toNat_inj.1 (by omega))
      simp [hn, hq, List.getElem?_eq_getElem h1, List.getElem?_eq_getElem h2]

theorem all_eq (la lb : List UInt8) (n : Nat) (ha : la.length = n) (hb : lb.length = n) : ((List.range n).all fun i => la[i]? == lb[i]?) = (la == lb) := by
  rw [Bool.eq_iff_iff]
  simp only [List.all_eq_true, List.mem_range, beq_iff_eq]
  constructor
  · intro h
    apply List.ext_getElem?
    intro i
    rcases Nat.lt_or_ge i n with hi | hi
    · exact h i hi
    · rw [List.getElem?_eq_none (by omega), List.getElem?_eq_none (by omega)]
  · intro h i _
    rw [h]

/-- a == b, two arrays of bytes. -/
theorem run_eql_bytes {t e : TypeId} {n : Nat} (ht : P.underlying t = some (.array n e)) (he : P.underlying e = some (.int .u8)) (hce : P.cellsOf e = 1) (la lb : List UInt8) (ha : la.length = n) (hb : lb.length = n) :
    (binOp .eql t (dv la) (dv lb)).run P w = .ok (.bool (la == lb)) w := by
  obtain ⟨i, hi⟩ := info_of_underlying he
  have h := run_equalIn_array (P := P) w 9999 (t := t) (la.map bv).toArray (lb.map bv).toArray ht hi
  rw [hce, run_items_bytes w 9998 he la lb (List.range n) (fun j hj => by have := List.mem_range.1 hj; omega), all_eq la lb n ha hb] at h
  simp only [binOp]
  simp [Op.equal, Op.maxDepth, h]
theorem run_neq_bytes {t e : TypeId} {n : Nat} (ht : P.underlying t = some (.array n e)) (he : P.underlying e = some (.int .u8)) (hce : P.cellsOf e = 1) (la lb : List UInt8) (ha : la.length = n) (hb : lb.length = n) :
    (binOp .neq t (dv la) (dv lb)).run P w = .ok (.bool (!(la == lb))) w := by
  obtain ⟨i, hi⟩ := info_of_underlying he
  have h := run_equalIn_array (P := P) w 9999 (t := t) (la.map bv).toArray (lb.map bv).toArray ht hi
  rw [hce, run_items_bytes w 9998 he la lb (List.range n) (fun j hj => by have := List.mem_range.1 hj; omega), all_eq la lb n ha hb] at h
  simp only [binOp]
  simp [Op.equal, Op.maxDepth, h]

/-- An array that lies there is read whole. -/
theorem load_arr {u : World} {B b n : Nat} {t e : TypeId} {l : List UInt8} (ht : P.underlying t = some (.array n e)) (hi : (P.info? t).map (·.size) = some n) (hl : l.length = n) (h : Lies u B (some ⟨b, 0, none⟩) (l.map bv)) :
    (Instr.loadAt t (.pointer (some ⟨b, 0, none⟩))).run P u = .ok (dv l) u :=
  run_loadAt_mid u b 0 t (l.map bv) _ (fun j v hv => by
    obtain ⟨ad, e, _, hc⟩ := h j v hv
    injection e with e
    subst e
    rwa [add_plain] at hc) ht rfl (by rw [List.length_map, hl]; exact hi)

theorem loadVar_arr {u : World} {B b n : Nat} {t e : TypeId} {l : List UInt8} (ht : P.underlying t = some (.array n e)) (hi : (P.info? t).map (·.size) = some n) (hl : l.length = n) (h : Lies u B (some ⟨b, 0, none⟩) (l.map bv)) :
    (loadVar t ⟨b, 0, none⟩).run P u = .ok (dv l) u :=
  run_loadVar_mid u b 0 t (l.map bv) _ (fun j v hv => by
    obtain ⟨ad, e, _, hc⟩ := h j v hv
    injection e with e
    subst e
    rwa [add_plain] at hc) ht rfl (by rw [List.length_map, hl]; exact hi)

/-- Results: an array in memory, and a number. -/
theorem res_arr_tmp {fn : Func} {p u : Tmp} {t e : TypeId} {n B b : Nat} {l : List UInt8} {w : World} (h : fn.results = #[.cell p t, .tmp u]) (tmps : Array Value) (hp : tmps.getD p undef = .pointer (some ⟨b, 0, none⟩))
    (ht : P.underlying t = some (.array n e)) (hi : (P.info? t).map (·.size) = some n) (hl : l.length = n) (hL : Lies w B (some ⟨b, 0, none⟩) (l.map bv)) :
    (results fn tmps).run P w = .ok (.tuple #[dv l, tmps.getD u undef]) w := by
  rw [results_cell_tmp h, hp]
  simp only [asAddr, Sem.run_pure, Result.andThen_ok, loadVar_arr ht hi hl hL]
theorem res_arr {fn : Func} {p : Tmp} {t e : TypeId} {n B b : Nat} {l : List UInt8} {w : World} (h : fn.results = #[.cell p t]) (tmps : Array Value) (hp : tmps.getD p undef = .pointer (some ⟨b, 0, none⟩))
    (ht : P.underlying t = some (.array n e)) (hi : (P.info? t).map (·.size) = some n) (hl : l.length = n) (hL : Lies w B (some ⟨b, 0, none⟩) (l.map bv)) :
    (results fn tmps).run P w = .ok (dv l) w := by
  have hp' : tmps[p]?.getD undef = .pointer (some ⟨b, 0, none⟩) := by simpa using hp
  simp [results, h, hp', asAddr, loadVar_arr ht hi hl hL]

theorem exec_load {o : Oper} {a : Act} {u : World} {ty : TypeId} {x : Operand} {p : Option Addr} {v : Value} (ho : o.op = .load ty x) (hx : a.eval x = .pointer p)
    (h : (Instr.loadAt ty (.pointer p)).run P u = .ok v u) : (execOp a.eval o).run P u = .ok (.value v) u := by
  unfold execOp
  simp only [ho, hx, Sem.run_bind, h, Result.andThen_ok, Sem.run_pure]

/-- The load of a whole variable, in a plain region. -/
theorem wpList_loads {ops : Array Oper} {rest : List Oper} {o : Oper} {a : Act} {w : World} {Q : Exit → Act → World → Prop} (hgd : o.guard = none) (ty : TypeId) (x : Operand) (ho : o.op = .load ty x)
    (p : Option Addr) (hx : a.eval x = .pointer p) (v : Value) (h : (Instr.loadAt ty (.pointer p)).run P w = .ok v w) (hk : wpList P ops Q rest (a.put o.dst v) w) : wpList P ops Q (o :: rest) a w := by
  refine wpList_plain hgd fun K hK => ?_
  unfold Oper.wp
  rw [exec_load ho hx h]
  exact hK _ _ hk

theorem wpList_loadg {ops : Array Oper} {rest : List Oper} {o : Oper} {a : Act} {w : World} {Q : Exit → Act → World → Prop} (hw : Region.wanted o (yielded ops a.tmps) = true) (ty : TypeId) (x : Operand) (ho : o.op = .load ty x)
    (p : Option Addr) (hx : a.eval x = .pointer p) (v : Value) (h : (Instr.loadAt ty (.pointer p)).run P w = .ok v w) (hk : wpList P ops Q rest (a.put o.dst v) w) : wpList P ops Q (o :: rest) a w := by
  refine BigFrame.wpList_want hw fun K hK => ?_
  unfold Oper.wp
  rw [exec_load ho hx h]
  exact hK _ _ hk

/-- .. and in the walk of a region in our order. -/
theorem sched_load {Q : Exit → Act → World → Prop} {l : List Oper} {w0 w : World} {i : Nat} {s : List (Nat × Bool)} {a : Act} (o : Oper) (v : Value) (ho : l[i]? = some o)
    (hw : Region.wanted o (yielded l.toArray a.tmps) = true) (ty : TypeId) (x : Operand) (hop : o.op = .load ty x) (p : Option Addr) (hx : a.eval x = .pointer p)
    (hy : ∀ u, Grows w0 u → (Instr.loadAt ty (.pointer p)).run P u = .ok v u)
    (h : wpSched P l.toArray Q w0 s (a.put o.dst v) w) : wpSched P l.toArray Q w0 ((i, true) :: s) a w :=
  sched_take o v ho hw (fun u h0 _ => exec_load hop hx (hy u h0)) h
end

theorem below_cells {B : Nat} {a : World} (b : Nat) (hb : B ≤ b) : ∀ (vs : List Value) (o : Nat) (w : World), Below B a w → Below B a (w.setCells b o vs)
  | [], _, _, h => h
  | v :: r, o, w, h => below_cells b hb r (o + 1) _ (h.setCell (p := ⟨b, o, none⟩) hb v)

/-- The variable in block b is an array of the bytes l, and may be written. -/
structure Box (w : World) (b : Nat) (l : List UInt8) : Prop where
  lt : b < w.heap.size
  cells : ∀ j u, (l.map bv)[j]? = some u → w.cell? ⟨b, j, none⟩ = some u
  free : ∀ j, w.frozen? ⟨b, j, none⟩ = false

section
variable {w w' : World} {b : Nat} {l : List UInt8}
theorem Box.new (w : World) (t : TypeId) (l : List UInt8) : Box (w.alloc (.cells (l.map bv).toArray t)) w.heap.size l :=
  ⟨by simp, fun j u hu => by rw [cell_of_row _ _ _ _ t (0, 0) (heap_alloc_new w _)]; simpa using hu, fun j => frozen_of_row _ _ j _ t (heap_alloc_new w _)⟩
theorem Box.lies (h : Box w b l) : Lies w w.heap.size (some ⟨b, 0, none⟩) (l.map bv) := fun j u hu => ⟨_, rfl, h.lt, by rw [add_plain, Nat.zero_add]; exact h.cells j u hu⟩
theorem Box.below {B : Nat} (h : Box w b l) (hb : Below B w w') (hB : b < B) : Box w' b l :=
  ⟨Nat.lt_of_lt_of_le h.lt hb.size, fun j u hu => (hb.cell (p := ⟨b, j, none⟩) hB).trans (h.cells j u hu), fun j => (hb.frozen (p := ⟨b, j, none⟩) hB).trans (h.free j)⟩
theorem Box.later (h : Box w b l) (hb : Grows w w') : Box w' b l := h.below hb h.lt
theorem Box.drew (h : Box w b l) : Box w.drew b l := ⟨h.lt, h.cells, h.free⟩
theorem Box.there (h : Box w b l) : w.there b 0 l.length := fun j hj => by
  refine ⟨?_, by rw [Nat.zero_add]; exact h.free j⟩
  rw [Nat.zero_add, h.cells j (bv l[j]) (by rw [List.getElem?_map, List.getElem?_eq_getElem hj]; rfl)]
  rfl
/-- One of its bytes is stored. -/
theorem Box.set_ (h : Box w b l) {k : Nat} (hk : k < l.length) (x : UInt8) : Box (w.setCell ⟨b, k, none⟩ (bv x)) b (l.set k x) := by
  have hs := h.lies.set_ (k := k) (u := bv x) (by simpa using hk)
  rw [← List.map_set] at hs
  refine ⟨by simpa [World.setCell] using h.lt, fun j u hu => ?_, fun j => by simpa using h.free j⟩
  obtain ⟨ad, e, _, hc⟩ := hs j u hu
  injection e with e
  subst e
  rwa [add_plain, Nat.zero_add] at hc
theorem Box.put_ (h : Box w b l) {l' : List UInt8} (hl : l'.length = l.length) : Box (w.setCells b 0 (l'.map bv)) b l' := by
  have ht : w.there b 0 (l'.map bv).length := by rw [List.length_map, hl]; exact h.there
  refine ⟨?_, fun j u hu => ?_, fun j => by rw [World.frozen?_setCells]; exact h.free j⟩
  · have := below_cells (B := 0) (a := w) b (Nat.zero_le _) (l'.map bv) 0 w (Below.refl _ _)
    exact Nat.lt_of_lt_of_le h.lt this.size
  · have := World.rangeAt_setCells_same w b 0 (l'.map bv) ht j u hu
    rwa [Nat.zero_add] at this
theorem Box.cell (h : Box w b l) {k : Nat} {x : UInt8} (hx : l[k]? = some x) : w.cell? ⟨b, k, none⟩ = some (bv x) := h.cells k _ (by rw [List.getElem?_map, hx]; rfl)
theorem Box.load {P : Program} {n : Nat} {t e : TypeId} (h : Box w b l) (ht : P.underlying t = some (.array n e)) (hi : (P.info? t).map (·.size) = some n) (hl : l.length = n) :
    (Instr.loadAt t (.pointer (some ⟨b, 0, none⟩))).run P w = .ok (dv l) w := load_arr ht hi hl h.lies

/-- A row of the call's own that is not empty, as a variable. -/
theorem own_box {base : Nat} {e : TypeId} {v : Value} {n : Nat} {l : List UInt8} (h : w.ownsRow base e 1 v n (l.map bv)) (hn : 0 < n) : ∃ g c, v = .slice (some ⟨g, 0, none⟩) n c ∧ n ≤ c ∧ base ≤ g ∧ Box w g l := by
  have h0 := h
  rcases h.2 with ⟨_, h'⟩ | ⟨g, cap, cur, rfl, hb, hg, hnc, _⟩
  · omega
  · refine ⟨g, cap, rfl, hnc, hb, ?_, fun j u hu => ?_, fun j => frozen_of_row w g j cur e hg⟩
    · rcases Nat.lt_or_ge g w.heap.size with hlt | hge
      · exact hlt
      · rw [Array.getElem?_eq_none hge] at hg; cases hg
    · obtain ⟨ad, e, _, hc⟩ := Lies.of_own h0 j u hu
      injection e with e
      subst e
      rwa [add_plain, Nat.zero_add] at hc

/-- The store of a whole array. -/
theorem wpList_stores {P : Program} {ops : Array Oper} {rest : List Oper} {o : Oper} {a : Act} {Q : Exit → Act → World → Prop} (hgd : o.guard = none) (ty : TypeId) (x y : Operand) (ho : o.op = .store ty x y)
    (b : Nat) (l l' : List UInt8) (n : Nat) (hx : a.eval x = .pointer (some ⟨b, 0, none⟩)) (hy : a.eval y = dv l') (hb : Box w b l) (hl : l.length = n) (hl' : l'.length = n) (hi : (P.info? ty).map (·.size) = some n)
    (h : ∀ w', Box w' b l' → (∀ B a0, B ≤ b → Below B a0 w → Below B a0 w') → wpList P ops Q rest (a.put o.dst undef) w') : wpList P ops Q (o :: rest) a w := by
  have hz : (l'.map bv).toArray.size = n := by simp [hl']
  refine wpList_store_mid hgd ty x y ho b 0 (l'.map bv).toArray hx hy (by rw [hz, ← hl]; exact hb.there) (by rw [hz]; exact hi) (all_oneCell_toArray (bv_one l')) ?_
  exact h _ (hb.put_ (by rw [hl, hl'])) (fun B a0 hB hbl => below_cells b hB _ 0 w hbl)
end

/-- An array of bytes that came in. -/
theorem open_bytes {H : Type} {enc : TypeId × Value → H} {P : Program} {w : World} {base b0 : Nat} {spare : Nat → Bool} {held : Bool} {r : Reach} {t e : TypeId} {n : Nat} {v : Value} {d : DataW H} {p : List MemPlace}
    (ht : P.underlying t = some (.array n e)) (he : P.underlying e = some (.int .u8)) (hce : P.cellsOf e = 1) (hct : P.cellsOf t = n)
    (hv : Value.okWide P w r b0 t v) (h : DataW.Trod enc P w base spare held t v d p) : ∃ l : List UInt8, l.length = n ∧ v = dv l := by
  simp only [Value.okWide, ht] at hv
  obtain ⟨cs, rfl, hsz, _⟩ := hv
  obtain ⟨fuel, hf⟩ := h
  obtain ⟨xs, m, _, _, _, hxl, hi⟩ := DataW.trod_array ht hf
  have cell : ∀ i (h : i < cs.size), ∃ b : UInt8, cs[i] = bv b := by
    intro i h
    have hin : i < n := by omega
    have hx := hi i hin
    rw [List.getElem?_eq_getElem (by omega)] at hx
    rw [hce, Nat.mul_one] at hx
    have htk : ((Value.agg cs).cells.toList.drop i).take 1 = [cs[i]] := by
      show (cs.toList.drop i).take 1 = _
      rw [List.drop_eq_getElem_cons (by simpa using h)]
      simp
    rw [htk] at hx
    obtain ⟨z, hz, _, hwf⟩ := DataW.trod_int he hx
    simp at hz
    have hb := bounds_u8 hwf
    refine ⟨UInt8.ofNat z.toNat, ?_⟩
    rw [hz]
    have : (UInt8.ofNat z.toNat).toNat = z.toNat := by simp; omega
    simp only [bv, this]
    congr 1
    omega
  refine ⟨(List.range n).map fun i => if h : i < cs.size then (cell i h).choose else 0, by simp, ?_⟩
  show Value.agg cs = Value.agg _
  congr 1
  apply Array.ext
  · simp; omega
  · intro i h1 h2
    simp [h1]
    exact (cell i h1).choose_spec
end Go.Proofs.YtkgkkobdpgnicaaDoor
