/-
  Slices of ints that begin anywhere in a row of their own (of no program): one more put behind, the first one cut off. An array out of a slice. Operations on maps in a walk.
-/
import Derived.Test.YthnjbmaiebiehaaAmap
import Derived.Test.YthnjbmaiebiehaaLzC
import Derived.Deep.AppendSrc
namespace Go.Proofs.Ythnjbmaiebiehaa
open Go.RowKit
set_option linter.unusedVariables false
set_option linter.unusedSectionVars false

/-- v is a slice of these ints, in a row that may be written. -/
def OffRow (w : World) (v : Value) (js : List Nat) : Prop := ∃ g o c vs, v = .slice (some ⟨g, o, none⟩) js.length c ∧ Has w g vs ∧ o + c ≤ vs.length ∧ js.length ≤ c ∧ ∀ (t j : Nat), js[t]? = some j → vs[o + t]? = some (iv j)
theorem Has.kept {w w' : World} {b : Nat} {vs : List Value} {row : Option Nat} (h : Has w b vs) (hg : w.grownBy w' row) (hne : some b ≠ row) : Has w' b vs :=
  ⟨Nat.lt_of_lt_of_le h.lt hg.size, fun j u hu => (World.cell?_of_block (hg.block b h.lt hne)).trans (h.cells j u hu), fun j => (World.frozen?_of_block (hg.block b h.lt hne)).trans (h.free j)⟩
theorem OffRow.kept {w w' : World} {v : Value} {js : List Nat} {row : Option Nat} (h : OffRow w v js) (hg : w.grownBy w' row) (hne : v.ownBlock ≠ row) : OffRow w' v js := by
  obtain ⟨g, o, c, vs, rfl, hH, h1, h2, h3⟩ := h
  exact ⟨g, o, c, vs, rfl, hH.kept hg hne, h1, h2, h3⟩
theorem OffRow.lt {w : World} {v : Value} {js : List Nat} (h : OffRow w v js) : ∃ g, v.ownBlock = some g ∧ g < w.heap.size := by
  obtain ⟨g, o, c, vs, rfl, hH, h1, h2, h3⟩ := h
  exact ⟨g, rfl, hH.lt⟩
theorem OffRow.lies {w : World} {v : Value} {js : List Nat} (h : OffRow w v js) : ∃ A c, v = .slice A js.length c ∧ Lies w w.heap.size A (js.map iv) := by
  obtain ⟨g, o, c, vs, rfl, hH, h1, h2, h3⟩ := h
  refine ⟨_, c, rfl, fun j u hu => ⟨_, rfl, hH.lt, ?_⟩⟩
  rw [List.getElem?_map] at hu
  obtain ⟨x, hx, rfl⟩ := Option.map_eq_some_iff.1 hu
  rw [add_plain]
  exact hH.cell (h3 j x hx)

section
variable {P : Program}
/-- append(v, i) -/
theorem off_append (t ty e : TypeId) (i : TypeInfo) (ht : P.underlying t = some (.slice e)) (hi : P.info? e = some i) (hz : i.zero = some (.int .i64 0)) (hs : i.size = 1) (hby : i.bytes = 8) {w : World} {v : Value} {js : List Nat}
    (hv : (v = .slice none 0 0 ∧ js = []) ∨ OffRow w v js) (a : Addr) (x : Nat) (hx : w.cell? (a.add 0) = some (iv x)) (hl : js.length ≤ 1000000000000) :
    ∃ v' w', (Builtin.append_ #[t, t] ty #[v, .slice (some a) 1 1]).run P w = .ok v' w' ∧ OffRow w' v' (js ++ [x]) ∧ Wrote v v' w w' := by
  have hnews : ∀ j u, [iv x][j]? = some u → w.cell? (a.add j) = some u := fun j u hu => by
    cases j with
    | zero => simp at hu; subst hu; exact hx
    | succ j => simp at hu
  -- what a new row is
  have grown : ∀ (olds : List Value) (cap : Nat), olds.length = js.length → js.length + 1 ≤ cap → (∀ (t j : Nat), js[t]? = some j → olds[t]? = some (iv j)) →
      OffRow (w.drew.alloc (.cells (olds.toArray ++ [iv x].toArray ++ Builtin.zeroCells (Value.int .i64 0).cells (cap - (js.length + 1))) e)) (.slice (some ⟨w.heap.size, 0, none⟩) (js.length + 1) cap) (js ++ [x]) := by
    intro olds cap ho hc hp
    have e1 : olds.toArray ++ [iv x].toArray ++ Builtin.zeroCells (Value.int .i64 0).cells (cap - (js.length + 1)) = (olds ++ [iv x] ++ (Builtin.zeroCells (Value.int .i64 0).cells (cap - (js.length + 1))).toList).toArray := by
      apply Array.ext'; simp
    have hzl : (Builtin.zeroCells (Value.int .i64 0).cells (cap - (js.length + 1))).toList.length = cap - (js.length + 1) := by
      rw [Array.length_toList, size_zeroCells]; simp [Value.cells]
    rw [e1]
    refine ⟨w.heap.size, 0, cap, _, by simp, Has.new w.drew e _, ?_, by simpa using hc, fun t j hj => ?_⟩
    · simp only [List.length_append, hzl, ho, List.length_singleton]; omega
    · rw [Nat.zero_add]
      rcases Nat.lt_or_ge t js.length with h1 | h1
      · rw [List.getElem?_append_left h1] at hj
        rw [List.append_assoc, List.getElem?_append_left (by omega)]
        exact hp t j hj
      · rw [List.getElem?_append_right h1] at hj
        have ht0 : t = js.length := by
          rcases Nat.eq_or_lt_of_le h1 with h | h
          · exact h.symm
          · rw [List.getElem?_eq_none (by simp; omega)] at hj; cases hj
        subst ht0
        simp at hj
        subst hj
        rw [List.getElem?_append_left (by simp [ho]), List.getElem?_append_right (by omega), ho]
        simp
  rcases hv with ⟨rfl, rfl⟩ | ⟨g, o, c, vs, rfl, hH, h1, h2, h3⟩
  · have hr := run_append_nil (P := P) w t ty e i _ ht hi hz a 1 1 [iv x] (by rw [hs]; rfl) hnews (by omega) (by omega) (by rw [hby]; omega)
    have hg := grown [] (grownCap w 1 0 e) rfl (by have := grownCap_ge w 1 0 e; simpa using this) (fun t j h => by simp at h)
    simp only [List.length_nil, Nat.zero_add] at hg
    refine ⟨_, _, hr, ?_, ⟨⟨rfl, rfl, rfl, by simp, fun k hk _ => heap_alloc_old w.drew _ hk⟩, .inr ⟨_, rfl, Nat.le_refl _⟩⟩⟩
    simpa using hg
  · by_cases hroom : js.length + 1 ≤ c
    · have hS : Src P i.size t (.slice (some a) 1 1) 1 [iv x] w := Src.ofSlice w ht a 1 1 [iv x] (by rw [hs]; rfl) hnews (by simp [Value.oneCell'])
      have hlt : o + js.length < vs.length := by omega
      have hr := run_append_room_src (P := P) w t t ty e i ht hi g o js.length c _ 1 [iv x] hS hroom
        (fun j hj => by
          have : j = 0 := by simpa using hj
          subst this
          rw [hs, Nat.mul_one, Nat.add_zero, hH.cell (List.getElem?_eq_getElem hlt)]; rfl)
        (fun j hj => hH.free _)
      rw [hs, Nat.mul_one] at hr
      refine ⟨_, _, hr, ⟨g, o, c, vs.set (o + js.length) (iv x), by simp, ?_, by simpa using h1, by simpa using hroom, fun t j hj => ?_⟩, ⟨⟨?_, ?_, ?_, ?_, ?_⟩, .inl rfl⟩⟩
      · exact hH.set_ hlt _
      · rcases Nat.lt_or_ge t js.length with h4 | h4
        · rw [List.getElem?_append_left h4] at hj
          rw [List.getElem?_set_ne (by omega)]
          exact h3 t j hj
        · rw [List.getElem?_append_right h4] at hj
          have ht0 : t = js.length := by
            rcases Nat.eq_or_lt_of_le h4 with h | h
            · exact h.symm
            · rw [List.getElem?_eq_none (by simp; omega)] at hj; cases hj
          subst ht0
          simp at hj
          subst hj
          exact List.getElem?_set_self hlt
      · simp [World.setCells, World.setCell]
      · simp [World.setCells, World.setCell]
      · simp [World.setCells, World.setCell]
      · rw [size_setCells]; exact Nat.le_refl _
      · intro k hk hne
        exact Below.heap_setCell w ⟨g, o + js.length, none⟩ (iv x) k (fun e => hne (by rw [e]; rfl))
    · have holds : ∀ j u, (js.map iv)[j]? = some u → w.cell? ((⟨g, o, none⟩ : Addr).add j) = some u := fun j u hu => by
        rw [List.getElem?_map] at hu
        obtain ⟨y, hy, rfl⟩ := Option.map_eq_some_iff.1 hu
        rw [add_plain]
        exact hH.cell (h3 j y hy)
      have hr := run_append_grow (P := P) w t ty e i _ ht hi hz ⟨g, o, none⟩ js.length c (js.map iv) (by rw [hs]; simp) holds a 1 1 [iv x] (by rw [hs]; rfl) hnews (by omega) (by omega) (growslice_fits (by omega) (by rw [hby]; omega))
      refine ⟨_, _, hr, ?_, ⟨⟨rfl, rfl, rfl, by simp, fun k hk _ => heap_alloc_old w.drew _ hk⟩, .inr ⟨_, rfl, Nat.le_refl _⟩⟩⟩
      exact grown (js.map iv) _ (by simp) (grownCap_ge _ _ _ _) (fun t j hj => by rw [List.getElem?_map, hj]; rfl)

/-- v[1:] -/
theorem off_cut (t e : TypeId) (ht : P.underlying t = some (.slice e)) (hs : (P.info? e).map (·.size) = some 1) {w : World} {v : Value} {j : Nat} {js : List Nat} (hv : OffRow w v (j :: js)) (h0 : js ≠ []) (k : IntKind) :
    ∃ v', (∀ u, (Instr.sliceAt t v (some (.int k 1)) none none).run P u = .ok v' u) ∧ OffRow w v' js ∧ v'.ownBlock = v.ownBlock := by
  obtain ⟨g, o, c, vs, rfl, hH, h1, h2, h3⟩ := hv
  have hl : 0 < js.length := List.length_pos_iff.2 h0
  have h2' : js.length + 1 ≤ c := by simpa using h2
  have ht' : P.underlying t = some (.slice (P.elem t)) := by rw [elem_of ht hs]; exact ht
  have hr := fun u => run_cut_from (P := P) ht hs (some ⟨g, o, none⟩) (j :: js).length c 1 k (by simp) (by omega) u
  refine ⟨_, hr, ⟨g, o + 1, c - 1, vs, ?_, hH, by omega, by omega, fun t x hx => ?_⟩, ?_⟩
  · simp [add_plain]
  · rw [show o + 1 + t = o + (t + 1) by omega]
    exact h3 (t + 1) x (by simpa using hx)
  · simp [Value.ownBlock, add_plain]

/-- The address of an array of four out of a slice. -/
theorem run_arrayAt {K U : TypeId} (hK : P.underlying K = some (.array 4 U)) (A : Option Addr) (n c : Nat) (hn : 4 ≤ n) (w : World) : (Instr.arrayAt K (.slice A n c)).run P w = .ok (.pointer A) w := by
  simp [Instr.arrayAt, run_underlying hK, show ¬ n < 4 by omega]
theorem load_lies {K U : TypeId} (hK : P.underlying K = some (.array 4 U)) (hi : (P.info? K).map (·.size) = some 4) {w : World} {B : Nat} {A : Option Addr} {l : List UInt8} (hl : l.length = 4) (h : Lies w B A (l.map bv)) :
    (Instr.loadAt K (.pointer A)).run P w = .ok (dv l) w := by
  obtain ⟨x, hx⟩ : ∃ x, l[0]? = some x := ⟨_, List.getElem?_eq_getElem (by omega)⟩
  obtain ⟨ad, rfl, _, _⟩ := h 0 (bv x) (by rw [List.getElem?_map, hx]; rfl)
  obtain ⟨i, hi1, hi2⟩ := Option.map_eq_some_iff.1 hi
  have hc := run_loadCells_list (P := P) w ad (l.map bv) h.cells
  rw [List.length_map, hl] at hc
  simp [Instr.loadAt, Instr.sureAddr, loadVar, isAgg, run_underlying hK, sizeOf, typeInfo, hi1, hi2, hc]

variable {ops : Array Oper} {rest : List Oper} {o : Oper} {a : Act} {w : World} {Q : Exit → Act → World → Prop}
theorem wpList_arrayAt (hgd : o.guard = none) (K : TypeId) (x : Operand) (ho : o.op = .sliceToArrayPointer K x) (A : Option Addr) (n c : Nat) (hx : a.eval x = .slice A n c) (h : (Instr.arrayAt K (.slice A n c)).run P w = .ok (.pointer A) w)
    (hk : wpList P ops Q rest (a.put o.dst (.pointer A)) w) : wpList P ops Q (o :: rest) a w := by
  refine wpList_plain hgd fun K' hK' => ?_
  unfold Oper.wp execOp
  simp only [ho, hx, Sem.run_bind, h, Result.andThen_ok, Sem.run_pure]
  exact hK' _ _ hk
theorem wpList_look (hgd : o.guard = none) (T : TypeId) (x y : Operand) (ho : o.op = .lookup T x y false) (mv kv v : Value) (hx : a.eval x = mv) (hy : a.eval y = kv) (h : (Instr.lookup T mv kv false).run P w = .ok v w)
    (hk : wpList P ops Q rest (a.put o.dst v) w) : wpList P ops Q (o :: rest) a w := by
  refine wpList_plain hgd fun K' hK' => ?_
  unfold Oper.wp execOp
  simp only [ho, hx, hy, Sem.run_bind, h, Result.andThen_ok, Sem.run_pure]
  exact hK' _ _ hk
theorem wpList_mapEntry (hgd : o.guard = none) (T : TypeId) (x y : Operand) (ho : o.op = .mapEntry T x y) (mv kv v : Value) (w1 : World) (hx : a.eval x = mv) (hy : a.eval y = kv) (h : (Instr.mapEntry T mv kv).run P w = .ok v w1)
    (hk : wpList P ops Q rest (a.put o.dst v) w1) : wpList P ops Q (o :: rest) a w := by
  refine wpList_plain hgd fun K' hK' => ?_
  unfold Oper.wp execOp
  simp only [ho, hx, hy, Sem.run_bind, h, Result.andThen_ok, Sem.run_pure]
  exact hK' _ _ hk
theorem wpList_entryStore (hgd : o.guard = none) (T : TypeId) (x y z : Operand) (ho : o.op = .entryStore T x y z) (mv kv v : Value) (w1 : World) (hx : a.eval x = mv) (hy : a.eval y = kv) (hz : a.eval z = v) (h : (Instr.entryStore T mv kv v).run P w = .ok () w1)
    (hk : wpList P ops Q rest (a.put o.dst undef) w1) : wpList P ops Q (o :: rest) a w := by
  refine wpList_plain hgd fun K' hK' => ?_
  unfold Oper.wp execOp
  simp only [ho, hx, hy, hz, Sem.run_bind, h, Result.andThen_ok, Sem.run_pure]
  exact hK' _ _ hk
theorem wpList_mapPut (hgd : o.guard = none) (T : TypeId) (x y z : Operand) (ho : o.op = .mapUpdate T x y z) (mv kv v : Value) (w1 : World) (hx : a.eval x = mv) (hy : a.eval y = kv) (hz : a.eval z = v) (h : (Instr.mapUpdate T mv kv v).run P w = .ok () w1)
    (hk : wpList P ops Q rest (a.put o.dst undef) w1) : wpList P ops Q (o :: rest) a w := by
  refine wpList_plain hgd fun K' hK' => ?_
  unfold Oper.wp execOp
  simp only [ho, hx, hy, hz, Sem.run_bind, h, Result.andThen_ok, Sem.run_pure]
  exact hK' _ _ hk
theorem wpList_appendv (hgd : o.guard = none) (s x : Operand) (t : TypeId) (ho : o.op = .call { callee := .builtin .append, args := #[s, x], argTypes := #[t, t] }) (sv xv v : Value) (w1 : World) (hs : a.eval s = sv) (hx : a.eval x = xv)
    (h : (Builtin.append_ #[t, t] o.type #[sv, xv]).run P w = .ok v w1) (hk : wpList P ops Q rest (a.put o.dst v) w1) : wpList P ops Q (o :: rest) a w := by
  refine wpList_plain hgd fun K hK => ?_
  unfold Oper.wp execOp
  simp only [ho, resolve, invoke, builtin, Sem.run_bind, Sem.run_pure, Result.andThen_ok, List.map_toArray, List.map_cons, List.map_nil, hs, hx, h]
  exact hK _ _ hk
theorem wpList_deletev (hgd : o.guard = none) (s x : Operand) (t kt : TypeId) (ho : o.op = .call { callee := .builtin .delete, args := #[s, x], argTypes := #[t, kt] }) (sv xv v : Value) (w1 : World) (hs : a.eval s = sv) (hx : a.eval x = xv)
    (h : (Builtin.delete_ #[t, kt] o.type #[sv, xv]).run P w = .ok v w1) (hk : wpList P ops Q rest (a.put o.dst v) w1) : wpList P ops Q (o :: rest) a w := by
  refine wpList_plain hgd fun K hK => ?_
  unfold Oper.wp execOp
  simp only [ho, resolve, invoke, builtin, Sem.run_bind, Sem.run_pure, Result.andThen_ok, List.map_toArray, List.map_cons, List.map_nil, hs, hx, h]
  exact hK _ _ hk
end
end Go.Proofs.Ythnjbmaiebiehaa
